/-
  THE WALKS of a digest's text, of the code and of the document's answer.
-/
import Derived.Test.YtaabefafafdndaaDoorJn
import Derived.Test.YtaabefafafdndaaDoorBd
namespace Go.Proofs.YtaabefafafdndaaDoor
open Go.RowKit
/-- the sixteen signs -/
def SG : ByteArray := ⟨#[48, 49, 50, 51, 52, 53, 54, 55, 56, 57, 97, 98, 99, 100, 101, 102]⟩
theorem sg_get : ∀ i (h : i < 16), (SG[i]'h).toNat = Bl.sign i := by decide
theorem sg_ext : ∀ i, i < 16 → SG.extract i (i + 1) = bs [Bl.sign i] := by decide
def hx2 (x : Nat) : List Nat := [Bl.sign (x / 16), Bl.sign (x % 16)]
theorem hex_next {D : List Nat} {k : Nat} (h : k < D.length) : Bl.hex (D.take (k + 1)) = Bl.hex (D.take k) ++ hx2 (Bl.nth D k) := by
  rw [List.take_succ_eq_append_getElem h, Bl.nth_lt h]
  simp only [Bl.hex, hx2, List.flatMap_append, List.flatMap_cons, List.flatMap_nil, List.append_nil]
theorem hex_len : ∀ D : List Nat, (Bl.hex D).length = 2 * D.length := fun D => by
  induction D with
  | nil => rfl
  | cons x D ih => simp only [Bl.hex, List.flatMap_cons, List.length_append, List.length_cons] at ih ⊢; rw [ih]; simp; omega
set_option maxRecDepth 100000 in
set_option maxHeartbeats 1000000 in
theorem rhex_any (D : List Nat) (hD : Bl.By D) (lD : D.length = 32) (w : World) :
    Calls Tryd.prog 17 #[.agg (vs .u8 D)] w fun e w' => e = .returned (.string (bs (Bl.hex D))) ∧ Below w.heap.size w w' := by
  obtain ⟨W0, hW0⟩ : ∃ W0, W0 = w.alloc (Obj.cells (vs .u8 D) 24) := ⟨_, rfl⟩
  have o0 : Own W0 w.heap.size 24 (vs .u8 D) := by rw [hW0]; exact Own.new _ _ _
  have hb : Below w.heap.size w W0 := by rw [hW0]; exact (Below.refl _ w).alloc (Nat.le_refl _) _
  have HW0 := Lib.hid hW0
  clear hW0
  go_enter Tryd.func17, Tryd.ntmps17
  go_wp2_with fail
  change Code.wp _ _ _ _ (w.alloc (Obj.cells (vs .u8 D) 24))
  rw [← HW0.out, show (⟨#[48, 49, 50, 51, 52, 53, 54, 55, 56, 57, 97, 98, 99, 100, 101, 102]⟩ : ByteArray) = SG from rfl]
  clear HW0
  generalize hBB : w.heap.size = B at *
  go_loopw [4, 5] (fun s' i' wr => ∃ (k : Nat) (b : ByteArray), k ≤ 32 ∧ b = bs (Bl.hex (D.take k)) ∧ b.size = 2 * k ∧ s' = .string b ∧ i' = .int .i64 k ∧ Own wr B 24 (vs .u8 D) ∧ Below B w wr) (fun _ i _ => 32 - (intOf i).toNat)
  case atStart => exact ⟨0, _, by omega, rfl, rfl, rfl, rfl, o0, hb⟩
  case round =>
    clear o0 hb
    obtain ⟨k, b, hk, eb, zb, rfl, rfl, oD, hb⟩ := hrel
    generalize wr = wo at *
    by_cases hlt : k < 32
    · have hki : (k : Int) < 32 := by omega
      have eN := hex_next (D := D) (k := k) (by omega)
      have cd := oD.drew.cell (i := k) (by omega)
      have x256 := hD.nth k
      generalize Bl.nth D k = x at *
      have e1 : b ++ SG.extract (x / 16) (x / 16 + 1) ++ SG.extract (x % 16) (x % 16 + 1) = bs (Bl.hex (D.take (k + 1))) := by
        rw [sg_ext _ (by omega), sg_ext _ (by omega), eN, eb, hx2, bs_append, ByteArray.append_assoc, ← bs_append]; rfl
      have E := Lib.hid e1
      clear e1 eN eb
      have f0 : SG.size = 16 := rfl
      have f1 : IntKind.u8.wrap ((x : Int) / 16 + 1) = (x : Int) / 16 + 1 := IntWalk.u8_in _ (by omega)
      have f2 : IntKind.u8.wrap ((x : Int) % 16 + 1) = (x : Int) % 16 + 1 := IntWalk.u8_in _ (by omega)
      have f3 : (x : Int) / 16 + 1 ≤ 16 := by omega
      have f4 : (x : Int) % 16 + 1 ≤ 16 := by omega
      have f5 : ¬ 9223372036854775807 < b.size + (SG.extract (x / 16) (x / 16 + 1)).size := by rw [ByteArray.size_extract]; omega
      have f6 : ¬ 9223372036854775807 < b.size + (SG.extract (x / 16) (x / 16 + 1)).size + (SG.extract (x % 16) (x % 16 + 1)).size := by rw [ByteArray.size_extract, ByteArray.size_extract]; omega
      have f7 : (x : Int) % 16 ≤ (x : Int) % 16 + 1 := by omega
      go_wp2_with fail
      go_region
      go_wp2_with fail
      go_roundw
      case rel => exact ⟨k + 1, _, by omega, E.out, by rw [ByteArray.size_append, ByteArray.size_append, zb, ByteArray.size_extract, ByteArray.size_extract]; omega, rfl, by go_num, oD.drew, hb.drew⟩
      case measure => simp [intOf]; omega
    · obtain rfl : k = 32 := by omega
      rw [List.take_of_length_le (by omega)] at eb
      subst eb
      go_wp2_with fail
      go_ret
      exact ⟨rfl, by rw [hBB]; exact hb⟩
theorem own_conv (W : World) (B g c : Nat) (L : List Nat) (n : Nat) (hn : L.length = n) (h : W.ownsRow B 5 1 (.slice (some ⟨g, 0, none⟩) n c) n (vs .u8 L).toList) : (convert 47 9 (.slice (some ⟨g, 0, none⟩) n c)).run Tryd.prog W = .ok (.string (bs L)) W := by
  subst hn
  have e := run_convert_bytes_arg W 47 5 Tryd.underlying47 Tryd.underlying5 g 0 L.length c (L.map fun (x : Nat) => (x : Int)) (by simp) (fun i hi => by
    rw [Nat.zero_add, h.cellAt i (by omega), Array.getElem?_toList, vs_get .u8 hi, Bl.nth_lt hi]
    simp [List.getD_eq_getElem?_getD, hi]) 9 Tryd.underlying9
  rw [e]
  unfold strOfNums bs
  simp [List.map_map, Function.comp_def]
theorem vs_app (k : IntKind) (a b : List Nat) : (vs k (a ++ b)).toList = (vs k a).toList ++ (vs k b).toList := by simp [vs]
theorem run_idx (w : World) (D : List Nat) (lD : D.length = 32) (i : Nat) (hi : i < 32) : (Instr.index 24 (.agg (vs .u8 D)) (.int .i64 (i : Int))).run Tryd.prog w = .ok (.int .u8 (Bl.nth D i : Nat)) w := by
  obtain ⟨i0, hf, _, hz1, _⟩ := info_parts info5b
  have h1 : (i : Int) < 32 := by omega
  have c := vs_get .u8 (l := D) (i := i) (by omega)
  simp [Instr.index, run_underlying Tryd.underlying24, asIntOf, h1, go_sem, sizeOf, typeInfo, part, isAgg, Tryd.underlying5, run_underlying Tryd.underlying5, c, hf, hz1, hi]
set_option maxRecDepth 100000 in
set_option maxHeartbeats 1000000 in
theorem hex_any (D : List Nat) (hD : Bl.By D) (lD : D.length = 32) (w : World) :
    Calls Tryd.prog 15 #[.agg (vs .u8 D)] w fun e w' => e = .returned (.string (bs (Bl.hex D))) ∧ Below w.heap.size w w' := by
  obtain ⟨i0, hi, hz0, hz1, hz2⟩ := info_parts info5b
  have hb0 : Below w.heap.size w (w.alloc (Obj.cells (vs .u8 D) 24)) := (Below.refl _ w).alloc (Nat.le_refl _) _
  obtain ⟨w1, hr, hown, hgr⟩ := run_make_own (P := Tryd.prog) (w.alloc (Obj.cells (vs .u8 D) 24)) w.heap.size 47 5 i0 (.int .u8 0) 1 Tryd.underlying47 hi hz0 hz1 .i64 .i64 64 (by rw [hz2]; decide) (by decide) (by simp)
  have hr' : (Instr.makeSlice 47 (.int .i64 0) (.int .i64 64)).run Tryd.prog (w.alloc (Obj.cells (vs .u8 D) 24)) = .ok (.slice (some ⟨(w.alloc (Obj.cells (vs .u8 D) 24)).heap.size, 0, none⟩) 0 64) w1 := hr
  have o1 : Own (w.alloc (Obj.cells (vs .u8 D) 24)) w.heap.size 24 (vs .u8 D) := Own.new _ _ _
  go_enter Tryd.func15, Tryd.ntmps15
  have o2 : Own w1 w.heap.size 24 (vs .u8 D) := o1.kept (hgr.block _ o1.lt (by simp))
  have hb1 : Below w.heap.size w w1 := hb0.grown hgr (by simp) (fun k hk => by simp at hk)
  have s1 : (w.alloc (Obj.cells (vs .u8 D) 24)).heap.size = w.heap.size + 1 := by simp
  have hz1' := hb1.size
  rw [s1] at hown hr'
  go_wp2_with (refine ld t24 rfl rfl rfl o2 lD ?_)
  clear o1 o2 hr hr' hb0
  generalize Value.slice (some ⟨w.heap.size + 1, 0, none⟩) 0 64 = v0 at *
  generalize hBB : w.heap.size = B at *
  go_loopw [3, 8] (fun v' i' wr => ∃ k : Nat, k ≤ 32 ∧ wr.ownsRow B 5 1 v' (2 * k) (vs .u8 (Bl.hex (D.take k))).toList ∧ i' = .int .i64 k ∧ Below B w wr) (fun _ i _ => 32 - (intOf i).toNat)
  case atStart => exact ⟨0, by omega, hown, rfl, hb1⟩
  case round =>
    clear hown hb1
    rename_i v'
    obtain ⟨k, hk, hown, rfl, hb1⟩ := hrel
    generalize wr = wo at *
    by_cases hlt : k < 32
    · have hki : (k : Int) < 32 := by omega
      have eN := hex_next (D := D) (k := k) (by omega)
      have x256 := hD.nth k
      have ri := fun w => run_idx w D lD k hlt
      generalize Bl.nth D k = x at *
      obtain ⟨p, hp⟩ : ∃ p, p = x / 16 := ⟨_, rfl⟩
      obtain ⟨q, hq⟩ : ∃ q, q = x % 16 := ⟨_, rfl⟩
      have ep : IntKind.u8.wrap ((x : Int) / 16) = (p : Int) := by rw [IntWalk.u8_in _ (by omega)]; omega
      have eq : (x : Int).tmod 16 = (q : Int) := by rw [Int.tmod_eq_emod_of_nonneg (by omega)]; omega
      have eq2 : (x : Int) % 16 = (q : Int) := by omega
      have p16 : p < 16 := by omega
      have q16 : q < 16 := by omega
      have pI : (p : Int) < 16 := by omega
      have qI : (q : Int) < 16 := by omega
      have g1 : ((⟨#[48, 49, 50, 51, 52, 53, 54, 55, 56, 57, 97, 98, 99, 100, 101, 102]⟩ : ByteArray)[p]'p16).toNat = Bl.sign p := sg_get p p16
      have g2 : ((⟨#[48, 49, 50, 51, 52, 53, 54, 55, 56, 57, 97, 98, 99, 100, 101, 102]⟩ : ByteArray)[q]'q16).toNat = Bl.sign q := sg_get q q16
      have hx2e : hx2 x = [Bl.sign p, Bl.sign q] := by rw [hp, hq]; rfl
      rw [hx2e] at eN
      have HP := Lib.hid (And.intro hp (And.intro hq eN))
      clear hp hq eN hx2e
      go_wp2_with fail
      refine wp_region_any (by kernel_rfl) ?_
      change wpAny _ _ _ _ _ _ _ wo.drew
      refine wpAny_take (i := 0) (oi := { dst := some 11, op := Op.move (Operand.tmp 3), type := _, pos := _, after := _, guard := _ }) (v := ?_) rfl (by kernel_rfl) (by kernel_rfl) (by kernel_rfl) (fun _ _ _ h => h) (Or.inl ⟨by rfl, ?_⟩) ?_
      rotate_left
      · intro wq
        go_simp
        rfl
      try simp only [Act.put, List.setIfInBounds_toArray, List.set_cons_zero, List.set_cons_succ]
      refine wpAny_take (i := 1) (oi := { dst := some 12, op := Op.move (Operand.tmp 5), type := _, pos := _, after := _, guard := _ }) (v := ?_) rfl (by kernel_rfl) (by kernel_rfl) (by kernel_rfl) (fun _ _ _ h => h) (Or.inl ⟨by rfl, ?_⟩) ?_
      rotate_left
      · intro wq
        go_simp
        rfl
      try simp only [Act.put, List.setIfInBounds_toArray, List.set_cons_zero, List.set_cons_succ]
      refine wpAny_take (i := 4) (oi := { dst := some 15, op := Op.move (Operand.tmp 5), type := _, pos := _, after := _, guard := _ }) (v := ?_) rfl (by kernel_rfl) (by kernel_rfl) (by kernel_rfl) (fun _ _ _ h => h) (Or.inl ⟨by rfl, ?_⟩) ?_
      rotate_left
      · intro wq
        go_simp
        rfl
      try simp only [Act.put, List.setIfInBounds_toArray, List.set_cons_zero, List.set_cons_succ]
      refine wpAny_take (i := 2) (oi := { dst := some 13, op := Op.binOp BinOp.quo 5 (Operand.tmp 12) (Operand.const (Value.int IntKind.u8 16)) 5, type := _, pos := _, after := _, guard := _ }) (v := ?_) rfl (by kernel_rfl) (by kernel_rfl) (by kernel_rfl) (fun _ _ _ h => h) (Or.inl ⟨by rfl, ?_⟩) ?_
      rotate_left
      · intro wq
        go_simp
        rfl
      try simp only [Act.put, List.setIfInBounds_toArray, List.set_cons_zero, List.set_cons_succ]
      refine wpAny_take (i := 5) (oi := { dst := some 16, op := Op.binOp BinOp.rem 5 (Operand.tmp 15) (Operand.const (Value.int IntKind.u8 16)) 5, type := _, pos := _, after := _, guard := _ }) (v := ?_) rfl (by kernel_rfl) (by kernel_rfl) (by kernel_rfl) (fun _ _ _ h => h) (Or.inl ⟨by rfl, ?_⟩) ?_
      rotate_left
      · intro wq
        go_simp
        rfl
      try simp only [Act.put, List.setIfInBounds_toArray, List.set_cons_zero, List.set_cons_succ]
      refine wpAny_take (i := 3) (oi := { dst := some 14, op := Op.index 9 (Operand.const (Value.string { data := #[48, 49, 50, 51, 52, 53, 54, 55, 56, 57, 97, 98, 99, 100, 101, 102] })) (Operand.tmp 13), type := _, pos := _, after := _, guard := _ }) (v := ?_) rfl (by kernel_rfl) (by kernel_rfl) (by kernel_rfl) (fun _ _ _ h => h) (Or.inl ⟨by rfl, ?_⟩) ?_
      rotate_left
      · intro wq
        go_simp
        rfl
      try simp only [Act.put, List.setIfInBounds_toArray, List.set_cons_zero, List.set_cons_succ]
      refine wpAny_take (i := 6) (oi := { dst := some 17, op := Op.index 9 (Operand.const (Value.string { data := #[48, 49, 50, 51, 52, 53, 54, 55, 56, 57, 97, 98, 99, 100, 101, 102] })) (Operand.tmp 16), type := _, pos := _, after := _, guard := _ }) (v := ?_) rfl (by kernel_rfl) (by kernel_rfl) (by kernel_rfl) (fun _ _ _ h => h) (Or.inl ⟨by rfl, ?_⟩) ?_
      rotate_left
      · intro wq
        go_simp
        rfl
      try simp only [Act.put, List.setIfInBounds_toArray, List.set_cons_zero, List.set_cons_succ]
      refine wpAny_ready (rs := [7]) (by kernel_rfl) (by simp) ?_
      refine AllReady.cons (o := { dst := some 18, op := Op.buildSlice 47 2 #[(0, Operand.tmp 14), (1, Operand.tmp 17)], type := _, pos := _, after := _, guard := _ }) rfl (fun KK hKK => ?_) AllReady.nil
      have hKS := Lib.hid hKK
      clear hKK
      go_simp
      refine hKS.out _ _ ?_
      clear hKS KK
      try simp only [Act.put, List.setIfInBounds_toArray, List.set_cons_zero, List.set_cons_succ]
      refine wpAny_ready (rs := [8]) (by kernel_rfl) (by simp) ?_
      refine AllReady.cons (o := { dst := some 19, op := Op.call { callee := Callee.builtin Builtin.append, args := #[Operand.tmp 11, Operand.tmp 18], argTypes := #[47, 47] }, type := _, pos := _, after := _, guard := _ }) rfl (fun KK hKK => ?_) AllReady.nil
      have hKS := Lib.hid hKK
      clear hKK
      rw [if_pos (by rfl)]
      have oN := Own.new wo.drew 5 (vs .u8 ([Bl.sign p, Bl.sign q]))
      refine wp_append_own _ (Operand.tmp 11) (Operand.tmp 18) 47 rfl B 5 i0 (.int .u8 0) 1 1 Tryd.underlying47 hi hz0 hz1 hz2 rfl (by decide) _ _ _ rfl (hown.alloc _) ⟨wo.drew.heap.size, 0, none⟩ 2 2 (vs .u8 ([Bl.sign p, Bl.sign q])).toList rfl rfl ?c1 ?c2 ?c3 ?c4 ?c5 ?_
      case c1 => intro j u hj; rw [Addr.add_mid, Nat.zero_add]; refine (oN.cellv j).trans ?_; rw [ ← Array.getElem?_toList]; exact hj
      case c2 => intro u hu; have := vs_one .u8 ([Bl.sign p, Bl.sign q]); rw [Array.all_eq_true_iff_forall_mem] at this; exact this u (by simpa using hu)
      case c3 => unfold maxLen; omega
      case c4 => omega
      case c5 => have := hb1.size; simp; omega
      intro v2 w2 hown2 hg2 _
      have hb2 := (hb1.drew.alloc (by have := hb1.size; simp; omega) (Obj.cells (vs .u8 ([Bl.sign p, Bl.sign q])) 5)).grown hg2 (by have := hb1.size; simp; omega) (fun k hk => (hown.lt k hk).1)
      refine hKS.out _ _ ?_
      clear hKS KK
      try simp only [Act.put, List.setIfInBounds_toArray, List.set_cons_zero, List.set_cons_succ]
      refine wpAny_ready (rs := [9]) (by kernel_rfl) (by simp) ?_
      refine AllReady.cons (o := { dst := some 3, op := Op.assign (Operand.tmp 19), type := _, pos := _, after := _, guard := _ }) rfl (fun KK hKK => ?_) AllReady.nil
      have hKS := Lib.hid hKK
      clear hKK
      go_simp
      refine hKS.out _ _ ?_
      clear hKS KK
      try simp only [Act.put, List.setIfInBounds_toArray, List.set_cons_zero, List.set_cons_succ]
      refine wpAny_done (by kernel_rfl) ?_ _
      go_wp2_with fail
      go_roundw
      case rel => exact ⟨k + 1, by omega, by rw [HP.out.2.2, vs_app]; exact hown2, by go_num, hb2⟩
      case measure => simp [intOf]; omega
    · obtain rfl : k = 32 := by omega
      rw [List.take_of_length_le (by omega)] at hown
      obtain ⟨g, cap, hv, _, _⟩ := hown.form (by decide)
      subst hv
      have cv := own_conv wo B g cap (Bl.hex D) 64 (by rw [hex_len, lD]) hown
      go_wp2_with fail
      go_ret
      exact ⟨rfl, by rw [hBB]; exact hb1⟩
end Go.Proofs.YtaabefafafdndaaDoor
