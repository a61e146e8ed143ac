/-
  Two digests held against each other; how the laws' arguments are opened.
-/
import Derived.Test.YtaoaebdjinlcnaaDoorLa
import Derived.Test.YtaoaebdjinlcnaaDoorKr
import Derived.ChangeKeysEq
set_option linter.unusedVariables false
set_option linter.unusedSimpArgs false
set_option maxRecDepth 100000
namespace Go.Proofs.YtaoaebdjinlcnaaDoor
open Go.RowKit
theorem eq_items (L M : List Nat) (d : Nat) (w : World) (hl : L.length = M.length) : ∀ is : List Nat, (∀ i ∈ is, i < L.length) → (Op.eqItems (d + 1) 5 1 (vs .u8 L) (vs .u8 M) is).run Tryd.prog w = .ok (decide (∀ i ∈ is, Bl.nth L i = Bl.nth M i)) w
  | [], _ => by simp [Op.eqItems]
  | i :: is, h => by
    have hi := vs_get .u8 (h i (by simp))
    have hm := vs_get .u8 (l := M) (i := i) (by rw [← hl]; exact h i (by simp))
    have hp := run_part_plain (P := Tryd.prog) (w := w) (e := 5) (xs := vs .u8 L) (off := i * 1) (by kernel_rfl) (by rw [Nat.mul_one]; exact hi)
    have hq := run_part_plain (P := Tryd.prog) (w := w) (e := 5) (xs := vs .u8 M) (off := i * 1) (by kernel_rfl) (by rw [Nat.mul_one]; exact hm)
    have he : (Op.equalIn (d + 1) 5 (.int .u8 (Bl.nth L i : Nat)) (.int .u8 (Bl.nth M i : Nat))).run Tryd.prog w = .ok (decide (Bl.nth L i = Bl.nth M i)) w := by
      simp [Op.equalIn, run_underlying Tryd.underlying5]
      rw [Bool.eq_iff_iff]
      simp only [beq_iff_eq, decide_eq_true_eq]
      omega
    have ih := eq_items L M d w hl is fun j hj => h j (by simp [hj])
    simp only [Op.eqItems, Sem.run_bind, hp, hq, Result.andThen_ok, he]
    by_cases hh : Bl.nth L i = Bl.nth M i
    · simp [hh, ih]
    · simp [hh]
theorem nth_ext {L M : List Nat} (hl : L.length = M.length) : (∀ i ∈ List.range L.length, Bl.nth L i = Bl.nth M i) ↔ L = M := by
  constructor
  · intro h
    refine List.ext_getElem hl fun i h1 h2 => ?_
    rw [← Bl.nth_lt h1, ← Bl.nth_lt h2]
    exact h i (List.mem_range.2 h1)
  · rintro rfl i _; rfl
theorem eq_arr (L M : List Nat) (hl : L.length = 32) (hm : M.length = 32) (w : World) : (Op.equalIn 10000 64 (.agg (vs .u8 L)) (.agg (vs .u8 M))).run Tryd.prog w = .ok (decide (L = M)) w := by
  obtain ⟨i, hi, _⟩ := Option.map_eq_some_iff.1 info5b
  rw [show (10000 : Nat) = 9999 + 1 from rfl, run_equalIn_array (w := w) 9999 (vs .u8 L) (vs .u8 M) Tryd.underlying64 hi, show Tryd.prog.cellsOf 5 = 1 from by kernel_rfl]
  rw [eq_items L M 9998 w (by omega) _ fun j hj => by rw [hl]; exact List.mem_range.1 hj]
  have := nth_ext (L := L) (M := M) (by omega)
  rw [hl] at this
  simp only [this]
theorem exec_eq (L M : List Nat) (hl : L.length = 32) (hm : M.length = 32) (w : World) (ρ : Operand → Value) (x y : Operand) (hx : ρ x = .agg (vs .u8 L)) (hy : ρ y = .agg (vs .u8 M)) (o : Oper) (ho : o.op = .binOp .eql 64 x y 64) : (execOp ρ o).run Tryd.prog w = .ok (.value (.bool (decide (L = M)))) w := by
  have hq := eq_arr L M hl hm
  have hg := run_eqGuard_agg (P := Tryd.prog) (w := w) .eql 64 x y (vs .u8 L) (vs .u8 M) (by kernel_rfl)
  have hb : (binOp .eql 64 (.agg (vs .u8 L)) (.agg (vs .u8 M))).run Tryd.prog w = .ok (.bool (decide (L = M))) w := by
    show (do pure (Value.bool (← Op.equal 64 (.agg (vs .u8 L)) (.agg (vs .u8 M)))) : Sem Value).run Tryd.prog w = _
    simp only [Sem.run_bind]
    rw [show (Op.equal 64 (Value.agg (vs .u8 L)) (Value.agg (vs .u8 M))) = Op.equalIn 10000 64 (.agg (vs .u8 L)) (.agg (vs .u8 M)) from rfl, hq w]
    simp
  unfold execOp
  simp only [ho, hx, hy, Sem.run_bind, hg, hb, Result.andThen_ok, Sem.run_pure]
/-- an array is loaded, two are compared, in a region that is walked in the text's order -/
theorem ldw {ty : TypeId} {n : Nat} (T : ArrT ty n) {ops : Array Oper} {rest : List Oper} {o : Oper} {a : Act} {w : World} {Q : Exit → Act → World → Prop} {x : Operand} {g : Nat} {t : TypeId} {k : IntKind} {l : List Nat}
    (hgd : Region.wanted o (yielded ops a.tmps) = true) (ho : o.op = .load ty x) (hx : a.eval x = .pointer (some ⟨g, 0, none⟩)) (hg : Own w g t (vs k l)) (hl : l.length = n)
    (h : wpList Tryd.prog ops Q rest (a.put o.dst (.agg (vs k l))) w) : wpList Tryd.prog ops Q (o :: rest) a w := by
  obtain ⟨e, hu⟩ := T.und
  show (if Region.wanted o (yielded ops a.tmps) then o.wp Tryd.prog a w (wpList Tryd.prog ops Q rest) Q ∨ (o.asks Tryd.prog a w ∧ LetsOut Q) else wpList Tryd.prog ops Q rest (a.put o.dst undef) w)
  rw [if_pos hgd]
  exact .inl (wp_load_row ty x ho g hx t (vs k l) (0, 0) _ hg hu rfl (by rw [T.siz, vs_size, hl]) h)
theorem cmpw {ops : Array Oper} {rest : List Oper} {o : Oper} {a : Act} {w : World} {Q : Exit → Act → World → Prop} {x y : Operand} {L M : List Nat}
    (hgd : Region.wanted o (yielded ops a.tmps) = true) (ho : o.op = .binOp .eql 64 x y 64) (hx : a.eval x = .agg (vs .u8 L)) (hy : a.eval y = .agg (vs .u8 M)) (hl : L.length = 32) (hm : M.length = 32)
    (h : wpList Tryd.prog ops Q rest (a.put o.dst (.bool (decide (L = M)))) w) : wpList Tryd.prog ops Q (o :: rest) a w := by
  show (if Region.wanted o (yielded ops a.tmps) then o.wp Tryd.prog a w (wpList Tryd.prog ops Q rest) Q ∨ (o.asks Tryd.prog a w ∧ LetsOut Q) else wpList Tryd.prog ops Q rest (a.put o.dst undef) w)
  rw [if_pos hgd]
  refine .inl ?_
  have e := exec_eq L M hl hm w a.eval x y hx hy o ho
  unfold Oper.wp
  rw [e]
  exact h
theorem laidOut : laidOutB Tryd.prog = true := by kernel_rfl
theorem u8_ok {W : World} {base : Nat} {v : Value} (h : Cell.okWide Tryd.prog W .any base 5 v) : ∃ m : Nat, v = .int .u8 (m : Int) ∧ m < 256 := by
  unfold Cell.okWide at h
  rw [Tryd.underlying5] at h
  cases v <;> simp only [Cell.ok, Tryd.underlying5] at h
  obtain ⟨rfl, h⟩ := h
  rename_i n
  simp [IntKind.has, IntKind.min, IntKind.max, IntKind.signed, IntKind.bits] at h
  obtain ⟨m, rfl⟩ := Int.eq_ofNat_of_zero_le h.1
  exact ⟨m, rfl, by omega⟩
theorem bytes_of (cs : Array Value) (h : ∀ (i : Nat) v, cs[i]? = some v → ∃ m : Nat, v = .int .u8 (m : Int) ∧ m < 256) : ∃ K : List Nat, cs = vs .u8 K ∧ K.length = cs.size ∧ Bl.By K := by
  refine ⟨cs.toList.map fun v => (intOf v).toNat, ?_, by simp, ?_⟩
  · apply Array.ext_getElem?
    intro i
    unfold vs
    simp only [List.map_map, List.getElem?_toArray, List.getElem?_map, Array.getElem?_toList]
    cases hi : cs[i]? with
    | none => rfl
    | some v =>
      obtain ⟨m, rfl, _⟩ := h i v hi
      rfl
  · intro x hx
    obtain ⟨v, hv, rfl⟩ := List.mem_map.1 hx
    obtain ⟨i, hi, rfl⟩ := List.getElem_of_mem hv
    obtain ⟨m, hm, hlt⟩ := h i cs[i] (by simp at hi; simp [hi])
    simp only [Array.getElem_toList]
    rw [hm]
    exact hlt
theorem okArr {t n : Nat} (T : ArrT t n) (hc : Tryd.prog.cellsOf t = n) (hts : Tryd.prog.cellTypes Tryd.prog.depth t = some (List.replicate n 5)) {W : World} {base : Nat} {v : Value}
    (h : Value.okWide Tryd.prog W .any base t v) : ∃ K : List Nat, v = .agg (vs .u8 K) ∧ K.length = n ∧ Bl.By K := by
  obtain ⟨e, hu⟩ := T.und
  simp only [Value.okWide, hu] at h
  obtain ⟨cs, rfl, hsz, ts, hts', _, hcell⟩ := h
  rw [hts] at hts'
  cases hts'
  obtain ⟨K, h1, h2, h3⟩ := bytes_of cs fun i v hv => by
    obtain ⟨u, hu, hk⟩ := hcell i v hv
    have : u = 5 := by
      rw [List.getElem?_replicate] at hu
      split at hu
      · exact (Option.some.inj hu).symm
      · cases hu
    subst this
    exact u8_ok hk
  exact ⟨K, by rw [← h1], by rw [h2, hsz, hc], h3⟩
theorem okKey {W : World} {base : Nat} {v : Value} (h : Value.okWide Tryd.prog W .any base 24 v) : ∃ K : List Nat, v = .agg (vs .u8 K) ∧ K.length = 32 ∧ Bl.By K := okArr t28 (by kernel_rfl) (by kernel_rfl) h
theorem okDig {W : World} {base : Nat} {v : Value} (h : Value.okWide Tryd.prog W .any base 64 v) : ∃ K : List Nat, v = .agg (vs .u8 K) ∧ K.length = 32 ∧ Bl.By K := okArr t24 (by kernel_rfl) (by kernel_rfl) h
theorem nat_u8 {n : Int} (h : (Lit.int .u8 n).wf = true) : ∃ m : Nat, n = (m : Int) ∧ m < 256 := by
  simp [Lit.wf, IntKind.min, IntKind.max, IntKind.signed, IntKind.bits] at h
  obtain ⟨m, rfl⟩ := Int.eq_ofNat_of_zero_le h.1
  exact ⟨m, rfl, by omega⟩
theorem nat_u16 {n : Int} (h : (Lit.int .u16 n).wf = true) : ∃ m : Nat, n = (m : Int) ∧ m < 65536 := by
  simp [Lit.wf, IntKind.min, IntKind.max, IntKind.signed, IntKind.bits] at h
  obtain ⟨m, rfl⟩ := Int.eq_ofNat_of_zero_le h.1
  exact ⟨m, rfl, by omega⟩
/-- one text as parts -/
theorem pts_one {w : World} {g : Nat} {t : TypeId} {s : ByteArray} (h : Own w g t #[.string s]) : Pts w (some ⟨g, 0, none⟩) [s] := .inr ⟨_, 0, rfl, h.lt, fun j x hx => by
  obtain ⟨rfl, rfl⟩ : j = 0 ∧ s = x := by
    cases j with
    | zero => simpa using hx
    | succ j => simp at hx
  exact h.cellv 0⟩
theorem cat_one (s : ByteArray) : cat [s] = tn s := by simp [cat]
end Go.Proofs.YtaoaebdjinlcnaaDoor
