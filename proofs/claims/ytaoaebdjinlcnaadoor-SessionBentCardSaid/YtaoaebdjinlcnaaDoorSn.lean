/-
  THE WALKS of the nonce of a text, of the code and of the document's answer.
-/
import Derived.Test.YtaoaebdjinlcnaaDoorSf
set_option linter.unusedVariables false
set_option linter.unusedSimpArgs false
set_option maxRecDepth 100000
namespace Go.Proofs.YtaoaebdjinlcnaaDoor
open Go.RowKit
theorem nonD_nth {s : ByteArray} {i : Nat} (h : i < 12) (hi : i < s.size) : Bl.nth (nonD s) i = Bl.nth (tn s) i := by
  unfold nonD Bl.nth
  rw [List.getD_eq_getElem?_getD, List.getD_eq_getElem?_getD, List.getElem?_take_of_lt h, List.getElem?_append_left (by rw [tn_length]; exact hi)]
theorem nonD_short {s : ByteArray} (h : s.size ≤ 12) : prn 12 (nonD s) s.size = nonD s := by
  have e : nonD s = tn s ++ List.replicate (12 - s.size) 0 := by
    rw [nonD, List.take_append, List.take_of_length_le (by rw [tn_length]; exact h), tn_length, List.take_replicate]
    congr 2; omega
  rw [e, prn, List.take_append_of_le_length (by rw [tn_length]; exact Nat.le_refl _), List.take_of_length_le (by rw [tn_length]; exact Nat.le_refl _)]
/-- the bytes of a text that is longer than the array go over as far as there is room -/
theorem run_copy_long {w : World} {g n : Nat} {t ty : TypeId} {s : ByteArray} {l : List Nat} (hg : Own w g t (vs .u8 l)) (hl : l.length = n) (hn : n ≤ s.size) :
    (Builtin.copy_ #[45, 9] ty #[.slice (some ⟨g, 0, none⟩) n n, .string s]).run Tryd.prog w = .ok (goInt n) (w.setRow g (vs .u8 ((tn s).take n))) := by
  have hsz : s.data.toList.length = s.size := by simp
  have hlen : (Lib.byteCells (s.data.toList.take n)).length = n := by rw [Lib.byteCells_length, List.length_take]; omega
  have hst := run_storeCells_at Tryd.prog g 0 t (Lib.byteCells (s.data.toList.take n)) 0 (vs .u8 l) w hg (by rw [hlen, vs_size]; omega) (Lib.byteCells_one _)
  have hmin : Nat.min s.size n = n := Nat.min_eq_right hn
  have htk : List.take n (List.map (fun b : UInt8 => Value.int IntKind.u8 (b.toNat : Int)) s.data.toList) = Lib.byteCells (s.data.toList.take n) := by
    rw [← List.map_take]; rfl
  rw [hlen] at hst
  simp only [Nat.add_zero] at hst
  have e2 : ((vs .u8 l).toList.take 0 ++ Lib.byteCells (s.data.toList.take n) ++ (vs .u8 l).toList.drop (0 + n)).toArray = vs .u8 ((tn s).take n) := by
    simp [Lib.byteCells, vs, tn, hl, ← List.map_take, List.drop_of_length_le]
  rw [e2] at hst
  cases hq : Tryd.prog.info? 5 with
  | none => have : (Tryd.prog.info? 5).isSome = true := by kernel_rfl
            simp [hq] at this
  | some i =>
    simp [Builtin.copy_, run_underlying Tryd.underlying45, Builtin.lenOf, Builtin.firstCells, sizeOf, typeInfo, hq, hmin]
    rw [htk, hst]
    simp [Result.andThen]
theorem run_copy_non {w : World} {g : Nat} {t ty : TypeId} {s : ByteArray} (hg : Own w g t (vs .u8 (List.replicate 12 0))) :
    ∃ k : Nat, (Builtin.copy_ #[45, 9] ty #[.slice (some ⟨g, 0, none⟩) 12 12, .string s]).run Tryd.prog w = .ok (goInt k) (w.setRow g (vs .u8 (nonD s))) := by
  by_cases h : 12 ≤ s.size
  · refine ⟨12, ?_⟩
    rw [run_copy_long hg (by simp) h, nonD, List.take_append_of_le_length (by rw [tn_length]; exact h)]
  · refine ⟨s.size, ?_⟩
    have e := Lib.run_copy_row_string (P := Tryd.prog) w 45 9 ty 5 g 0 12 12 s (vs .u8 (List.replicate 12 0)) t Tryd.underlying45 (by kernel_rfl) hg (by omega) (by rw [vs_size]; simp; omega)
    have e3 : nonD s = tn s ++ (List.replicate 12 0).drop s.size := by
      rw [nonD, List.take_append, List.take_of_length_le (by rw [tn_length]; omega), tn_length, List.take_replicate, List.drop_replicate]
      congr 2; omega
    rw [e3]
    generalize List.replicate 12 0 = l at *
    have e2 : ((vs .u8 l).toList.take 0 ++ Lib.byteCells s.data.toList ++ (vs .u8 l).toList.drop (0 + s.size)).toArray = vs .u8 (tn s ++ l.drop s.size) := by
      rw [vs_cells]
      simp [vs]
    rw [e2] at e
    exact e
theorem cpl {ops : Array Oper} {rest : List Oper} {o : Oper} {a : Act} {w : World} {Q : Exit → Act → World → Prop} (hgd : o.guard = none) (d x : Operand) (ho : o.op = .call { callee := .builtin .copy, args := #[d, x], argTypes := #[45, 9] }) (g : Nat)
    (hd : a.eval d = .slice (some ⟨g, 0, none⟩) 12 12) (s : ByteArray) (hx : a.eval x = .string s) {t : TypeId} (hg : Own w g t (vs .u8 (List.replicate 12 0)))
    (h : ∀ k : Nat, wpList Tryd.prog ops Q rest (a.put o.dst (goInt k)) (w.setRow g (vs .u8 (nonD s)))) : wpList Tryd.prog ops Q (o :: rest) a w :=
  wpList_plain hgd fun K hK => by
    obtain ⟨k, e⟩ := run_copy_non (ty := o.type) (s := s) hg
    unfold Oper.wp
    simp [execOp, ho, resolve, invoke, builtin, hd, hx, e, Result.andThen]
    exact hK _ _ (h k)
set_option maxRecDepth 100000 in
set_option maxHeartbeats 1000000 in
theorem nonce_any (s : ByteArray) (w : World) : Calls Tryd.prog 49 #[.string s] w fun e w' => e = .returned (.agg (vs .u8 (nonD s))) ∧ Below w.heap.size w w' := by
  obtain ⟨V, hV⟩ : ∃ V, V = (w.alloc (Obj.cells (vs .u8 (List.replicate 12 0)) 54)).alloc (Obj.cells (vs .u8 (List.replicate 12 0)) 54) := ⟨_, rfl⟩
  have b0 : Below w.heap.size w V := by rw [hV]; exact ((Below.refl _ w).alloc (Nat.le_refl _) _).alloc (by simp) _
  have o0 : Own V w.heap.size 54 (vs .u8 (List.replicate 12 0)) := by rw [hV]; exact (Own.new _ _ _).alloc _
  have o1 : Own V (w.heap.size + 1) 54 (vs .u8 (List.replicate 12 0)) := by rw [hV]; exact Own.new' _ _ _ (by simp)
  have lF := nonD_len s
  have o1e : Own ((w.alloc (Obj.cells (vs .u8 (List.replicate 12 0)) 54)).alloc (Obj.cells (vs .u8 (List.replicate 12 0)) 54)) (w.heap.size + 1) 54 (vs .u8 (List.replicate 12 0)) := by rw [← hV]; exact o1
  have o2 := o1.row (vs .u8 (nonD s))
  have o3 := o0.rowOther (w.heap.size + 1) (vs .u8 (nonD s)) (by omega)
  have b2 := below_row b0 (show w.heap.size ≤ w.heap.size + 1 by omega) (vs .u8 (nonD s))
  obtain ⟨V2, hV2⟩ : ∃ V2, V2 = V.setRow (w.heap.size + 1) (vs .u8 (nonD s)) := ⟨_, rfl⟩
  rw [← hV2] at o2 o3 b2
  rw [hV] at hV2
  have HV := Lib.hid hV2
  clear hV hV2 o1 o0 b0
  generalize hF : nonD s = F at *
  have HF := Lib.hid hF
  clear hF
  go_enter Tryd.func49, Tryd.ntmps49
  go_wp2_with (first | (refine cpl rfl _ _ rfl (w.heap.size + 1) rfl s rfl o1e (fun k => ?_); rw [HF.out]; change wpList _ _ _ _ _ (((w.alloc (Obj.cells (vs .u8 (List.replicate 12 0)) 54)).alloc (Obj.cells (vs .u8 (List.replicate 12 0)) 54)).setRow (w.heap.size + 1) (vs .u8 F)); rw [← HV.out]) | (refine ld tN rfl rfl rfl o2 lF ?_) | (refine sto tN rfl rfl rfl rfl o3 (by simp) lF ?_))
  exact ret_arr tN rfl rfl (o3.row _) lF rfl ⟨rfl, below_row b2 (by omega) _⟩
set_option maxRecDepth 100000 in
set_option maxHeartbeats 1000000 in
theorem rnonce_any (s : ByteArray) (w : World) (hs : s.size ≤ 100000) : Calls Tryd.prog 58 #[.string s] w fun e w' => e = .returned (.agg (vs .u8 (nonD s))) ∧ Below w.heap.size w w' := by
  obtain ⟨V, hV⟩ : ∃ V, V = (w.alloc (Obj.cells (vs .u8 (List.replicate 12 0)) 54)).alloc (Obj.cells (vs .u8 (List.replicate 12 0)) 54) := ⟨_, rfl⟩
  have b0 : Below w.heap.size w V := by rw [hV]; exact ((Below.refl _ w).alloc (Nat.le_refl _) _).alloc (by simp) _
  have o0 : Own V w.heap.size 54 (vs .u8 (List.replicate 12 0)) := by rw [hV]; exact (Own.new _ _ _).alloc _
  have o1 : Own V (w.heap.size + 1) 54 (vs .u8 (List.replicate 12 0)) := by rw [hV]; exact Own.new' _ _ _ (by simp)
  obtain ⟨F, hF⟩ : ∃ F, F = nonD s := ⟨_, rfl⟩
  have lF : F.length = 12 := by rw [hF]; exact nonD_len s
  have HN := Lib.hid (fun i (h : i < 12) (hi : i < s.size) => by rw [hF, nonD_nth h hi, ← tn_get s hi] : ∀ i (h : i < 12) (hi : i < s.size), Bl.nth F i = s[i].toNat)
  have HS := Lib.hid (fun h => by rw [hF]; exact nonD_short h : s.size ≤ 12 → prn 12 F s.size = F)
  rw [← hF]
  have HV := Lib.hid hV
  clear hV hF
  go_enter Tryd.func58, Tryd.ntmps58
  go_wp2_with (refine sto_new (l := List.replicate 12 0) tN rfl rfl rfl (by simp) rfl rfl rfl ?_; change wpList _ _ _ _ _ ((w.alloc (Obj.cells (vs .u8 (List.replicate 12 0)) 54)).alloc (Obj.cells (vs .u8 (List.replicate 12 0)) 54)); rw [← HV.out])
  go_loopw [4] (fun i' wr => ∃ i : Nat, i ≤ 12 ∧ i ≤ s.size ∧ i' = .int .i64 i ∧ Own wr (w.heap.size + 1) 54 (vs .u8 (prn 12 F i)) ∧ Own wr w.heap.size 54 (vs .u8 (List.replicate 12 0)) ∧ Below w.heap.size w wr) (fun i _ => 12 - (intOf i).toNat)
  case atStart => exact ⟨0, by omega, by omega, rfl, by rw [prn_zero]; exact o1, o0, b0⟩
  case round =>
    clear o1 o0 b0
    obtain ⟨i, hi, his, rfl, o1, o0, b0⟩ := hrel
    generalize wr = wo at *
    by_cases h12 : i < 12
    · have d1 : (i : Int) < 12 := by omega
      by_cases hlt : i < s.size
      · have d2 : (i : Int) < (s.size : Int) := by omega
        have lP := prn_length lF hi
        have nx := prn_next lF h12
        have fr := o1.frozen i
        have lt1 := o1.lt
        have hn := HN.out i h12 hlt
        have hq := o1.set i (Bl.nth F i)
        rw [nx] at hq
        have hq0 := o0.other ⟨w.heap.size + 1, i, none⟩ (.int .u8 ((Bl.nth F i : Nat) : Int)) (by simp)
        have hb := b0.setCell (p := ⟨w.heap.size + 1, i, none⟩) (by simp) (.int .u8 ((Bl.nth F i : Nat) : Int))
        have cz := o1.cell (i := i) (by omega)
        rw [hn] at hq hq0 hb
        clear nx hn
        go_wp2_with fail
        go_roundw
        case rel => exact ⟨i + 1, by omega, by omega, by go_num, hq, hq0, hb⟩
        case measure => simp [intOf]; omega
      · obtain rfl : i = s.size := by omega
        rw [HS.out hi] at o1
        go_wp2_with (first | (refine ld tN rfl rfl rfl o1 lF ?_) | (refine sto tN rfl rfl rfl rfl o0 (by simp) lF ?_))
        exact ret_arr tN rfl rfl (o0.row _) lF rfl ⟨rfl, below_row b0 (by omega) _⟩
    · obtain rfl : i = 12 := by omega
      rw [prn_all lF] at o1
      go_wp2_with (first | (refine ld tN rfl rfl rfl o1 lF ?_) | (refine sto tN rfl rfl rfl rfl o0 (by simp) lF ?_))
      exact ret_arr tN rfl rfl (o0.row _) lF rfl ⟨rfl, below_row b0 (by omega) _⟩
end Go.Proofs.YtaoaebdjinlcnaaDoor
