/-
  THE WALKS of a plan's block 0, of the code and of the document's answer.
-/
import Derived.Test.YtambgmjiafcokaaDoorGb
import Derived.Test.YtambgmjiafcokaaDoorNp
import Derived.Test.YtambgmjiafcokaaDoorTr
namespace Go.Proofs.YtambgmjiafcokaaDoor
set_option linter.unusedVariables false
set_option maxRecDepth 100000
set_option linter.unusedSimpArgs false
open Go.RowKit
namespace Dw
open _root_.Go.Proofs.YtambgmjiafcokaaDoor.Nm
/-- a plan's block 0 -/
def headT (b n : Nat) : ByteArray := ⟨(Gm.headL b n).toArray⟩
theorem hib_eq : (⟨#[104, 105, 98, 49]⟩ : ByteArray) = ⟨Gm.hib.toArray⟩ := rfl
theorem rep_zero (k : Nat) : Lib.repeatL [0] k = List.replicate k 0 := by
  induction k with
  | zero => rfl
  | succ k ih => rw [List.replicate_succ]; show [0] ++ Lib.repeatL [0] k = _; rw [ih]; rfl
theorem head_cat (b n : Nat) : (⟨(Gm.hib ++ Nu.putB b 2 ++ Nu.putB n 2 ++ List.replicate 120 0).toArray⟩ : ByteArray) = headT b n := by
  unfold headT Gm.headL
  rw [List.append_assoc, List.append_assoc]
theorem head_cat' (b n : Nat) (Z : List UInt8) (hZ : Z = List.replicate 120 0) : (⟨#[104, 105, 98, 49]⟩ : ByteArray) ++ ⟨(Nu.putB b 2).toArray⟩ ++ ⟨(Nu.putB n 2).toArray⟩ ++ ⟨Z.toArray⟩ = headT b n := by
  rw [hib_eq, str_app, str_app, str_app, hZ, head_cat]
theorem putB_size (n k : Nat) : (⟨(Nu.putB n k).toArray⟩ : ByteArray).size = k := by
  show (Nu.putB n k).toArray.size = k
  rw [List.size_toArray, Nu.putB_length]
set_option maxRecDepth 100000 in
set_option maxHeartbeats 2000000 in
theorem first_any (b n : Nat) (w : World) (hb : b < 65536) (hn : n < 65536) :
    Calls Tryd.prog 37 #[.agg (gc b n)] w fun e w' => e = .returned (.string (headT b n)) ∧ Below w.heap.size w w' := by
  have hp1 := fun wr => put_any b 2 2 wr (by omega) rfl
  have hp2 := fun wr => put_any n 2 2 wr (by omega) rfl
  have s1 := putB_size b 2
  have s2 := putB_size n 2
  have hrep : ∀ wr, Calls Tryd.prog 36 #[.string ⟨#[0]⟩, .int .i64 120] wr fun e w' => e = .returned (.string ⟨(Lib.repeatL [0] 120).toArray⟩) ∧ Below wr.heap.size wr w' := fun wr => Tryd.strings_Repeat ⟨#[0]⟩ 120 wr (by omega) (by decide)
  have HR := Lib.hid (head_cat' b n (Lib.repeatL [0] 120) (rep_zero 120))
  have s3 : (⟨(Lib.repeatL [0] 120).toArray⟩ : ByteArray).size = 120 := by show (Lib.repeatL [0] 120).toArray.size = 120; rw [List.size_toArray, Lib.repeatL_length]; rfl
  generalize (⟨(Lib.repeatL [0] 120).toArray⟩ : ByteArray) = PZ at *
  generalize (⟨(Nu.putB b 2).toArray⟩ : ByteArray) = PB at *
  generalize (⟨(Nu.putB n 2).toArray⟩ : ByteArray) = PN at *
  have ob := Nm.Own.new w 58 (gc b n)
  have hg := grow w (Obj.cells (gc b n) 58)
  have e1 : IntKind.u64.wrap (b : Int) = (b : Int) := by rw [IntKind.wrap_u64]; omega
  have e2 : IntKind.u64.wrap (n : Int) = (n : Int) := by rw [IntKind.wrap_u64]; omega
  go_enter Tryd.func37, Tryd.ntmps37
  go_wp2_with fail
  generalize w.alloc (Obj.cells (gc b n) 58) = V at *
  refine wp_region_held_drew (S := fun w' => Nm.Own w' w.heap.size 58 (gc b n) ∧ Below w.heap.size w w') (by kernel_rfl) ⟨ob, hg.drew⟩ (fun hHeld => ?_)
  clear ob hg
  generalize V.drew = V0 at *
  generalize hB : w.heap.size = B at *
  refine wpAnyH_take (i := 0) (oi := { dst := some 4, op := Op.fieldAddr 58 (Operand.tmp 1) 0, type := _, pos := _, after := _, guard := _ }) (v := ?_) rfl (by kernel_rfl) (by kernel_rfl) (by kernel_rfl) (fun _ _ _ h => h) (Or.inl ⟨by rfl, ?_⟩) hHeld ?_
  rotate_left
  · intro wq hSw
    go_simp
    rfl
  try simp only [Act.put, List.setIfInBounds_toArray, List.set_cons_zero, List.set_cons_succ]
  refine wpAnyH_take (i := 1) (oi := { dst := some 5, op := Op.load 3 (Operand.tmp 4), type := _, pos := _, after := _, guard := _ }) (v := ?_) rfl (by kernel_rfl) (by kernel_rfl) (by kernel_rfl) (fun _ _ _ h => h) (Or.inl ⟨by rfl, ?_⟩) hHeld ?_
  rotate_left
  · intro wq hSw
    have d0 := hSw.1.cell 0
    have d1 := hSw.1.cell 1
    simp only [gc, List.getElem?_toArray, List.getElem?_cons_zero, List.getElem?_cons_succ] at d0 d1
    go_simp
    rfl
  try simp only [Act.put, List.setIfInBounds_toArray, List.set_cons_zero, List.set_cons_succ]
  refine wpAnyH_take (i := 2) (oi := { dst := some 6, op := Op.convert 3 55 (Operand.tmp 5), type := _, pos := _, after := _, guard := _ }) (v := ?_) rfl (by kernel_rfl) (by kernel_rfl) (by kernel_rfl) (fun _ _ _ h => h) (Or.inl ⟨by rfl, ?_⟩) hHeld ?_
  rotate_left
  · intro wq hSw
    go_simp
    rfl
  try simp only [Act.put, List.setIfInBounds_toArray, List.set_cons_zero, List.set_cons_succ]
  refine wpAnyH_take (i := 5) (oi := { dst := some 9, op := Op.fieldAddr 58 (Operand.tmp 1) 1, type := _, pos := _, after := _, guard := _ }) (v := ?_) rfl (by kernel_rfl) (by kernel_rfl) (by kernel_rfl) (fun _ _ _ h => h) (Or.inl ⟨by rfl, ?_⟩) hHeld ?_
  rotate_left
  · intro wq hSw
    go_simp
    rfl
  try simp only [Act.put, List.setIfInBounds_toArray, List.set_cons_zero, List.set_cons_succ]
  refine wpAnyH_take (i := 6) (oi := { dst := some 10, op := Op.load 3 (Operand.tmp 9), type := _, pos := _, after := _, guard := _ }) (v := ?_) rfl (by kernel_rfl) (by kernel_rfl) (by kernel_rfl) (fun _ _ _ h => h) (Or.inl ⟨by rfl, ?_⟩) hHeld ?_
  rotate_left
  · intro wq hSw
    have d0 := hSw.1.cell 0
    have d1 := hSw.1.cell 1
    simp only [gc, List.getElem?_toArray, List.getElem?_cons_zero, List.getElem?_cons_succ] at d0 d1
    go_simp
    rfl
  try simp only [Act.put, List.setIfInBounds_toArray, List.set_cons_zero, List.set_cons_succ]
  refine wpAnyH_take (i := 7) (oi := { dst := some 11, op := Op.convert 3 55 (Operand.tmp 10), type := _, pos := _, after := _, guard := _ }) (v := ?_) rfl (by kernel_rfl) (by kernel_rfl) (by kernel_rfl) (fun _ _ _ h => h) (Or.inl ⟨by rfl, ?_⟩) hHeld ?_
  rotate_left
  · intro wq hSw
    go_simp
    rfl
  try simp only [Act.put, List.setIfInBounds_toArray, List.set_cons_zero, List.set_cons_succ]
  refine wpAnyH_ready (rs := [3]) (by kernel_rfl) (by simp) ?_
  refine AllReadyH.cons (o := { dst := some 7, op := Op.call { callee := Callee.value (Operand.func 30), args := #[Operand.tmp 6, Operand.const (Value.int IntKind.i64 2)], argTypes := #[55, 3] }, type := _, pos := _, after := _, guard := _ }) rfl (fun KK hKK => ?_) AllReadyH.nil
  have hKS := Lib.hid hKK
  clear hKK
  go_simp
  refine (hp1 _).mono ?_
  rintro e w3 ⟨rfl, hx⟩
  go_wp2_with fail
  have hH2 : Nm.Own w3 B 58 (gc b n) ∧ Below B w w3 := ⟨hHeld.1.below hx, hHeld.2.trans (hx.mono (hB ▸ hHeld.2.size))⟩
  refine hKS.out.out _ _ hH2 (fun hHeld => ?_)
  clear hKS KK hx
  try simp only [Act.put, List.setIfInBounds_toArray, List.set_cons_zero, List.set_cons_succ]
  refine wpAnyH_take (i := 4) (oi := { dst := some 8, op := Op.binOp BinOp.add 9 (Operand.const (Value.string { data := #[104, 105, 98, 49] })) (Operand.tmp 7) 9, type := _, pos := _, after := _, guard := _ }) (v := ?_) rfl (by kernel_rfl) (by kernel_rfl) (by kernel_rfl) (fun _ _ _ h => h) (Or.inl ⟨by rfl, ?_⟩) hHeld ?_
  rotate_left
  · intro wq hSw
    go_simp
    rfl
  try simp only [Act.put, List.setIfInBounds_toArray, List.set_cons_zero, List.set_cons_succ]
  refine wpAnyH_ready (rs := [8]) (by kernel_rfl) (by simp) ?_
  refine AllReadyH.cons (o := { dst := some 12, op := Op.call { callee := Callee.value (Operand.func 30), args := #[Operand.tmp 11, Operand.const (Value.int IntKind.i64 2)], argTypes := #[55, 3] }, type := _, pos := _, after := _, guard := _ }) rfl (fun KK hKK => ?_) AllReadyH.nil
  have hKS := Lib.hid hKK
  clear hKK
  go_simp
  refine (hp2 _).mono ?_
  rintro e w8 ⟨rfl, hx⟩
  go_wp2_with fail
  have hH2 : Nm.Own w8 B 58 (gc b n) ∧ Below B w w8 := ⟨hHeld.1.below hx, hHeld.2.trans (hx.mono (hB ▸ hHeld.2.size))⟩
  refine hKS.out.out _ _ hH2 (fun hHeld => ?_)
  clear hKS KK hx
  try simp only [Act.put, List.setIfInBounds_toArray, List.set_cons_zero, List.set_cons_succ]
  refine wpAnyH_take (i := 9) (oi := { dst := some 13, op := Op.binOp BinOp.add 9 (Operand.tmp 8) (Operand.tmp 12) 9, type := _, pos := _, after := _, guard := _ }) (v := ?_) rfl (by kernel_rfl) (by kernel_rfl) (by kernel_rfl) (fun _ _ _ h => h) (Or.inl ⟨by rfl, ?_⟩) hHeld ?_
  rotate_left
  · intro wq hSw
    go_simp
    rfl
  try simp only [Act.put, List.setIfInBounds_toArray, List.set_cons_zero, List.set_cons_succ]
  refine wpAnyH_take (i := 10) (oi := { dst := some 3, op := Op.assign (Operand.tmp 13), type := _, pos := _, after := _, guard := _ }) (v := ?_) rfl (by kernel_rfl) (by kernel_rfl) (by kernel_rfl) (fun _ _ _ h => h) (Or.inl ⟨by rfl, ?_⟩) hHeld ?_
  rotate_left
  · intro wq hSw
    go_simp
    rfl
  try simp only [Act.put, List.setIfInBounds_toArray, List.set_cons_zero, List.set_cons_succ]
  refine wpAnyH_done (by kernel_rfl) ?_ _
  go_wp2_with fail
  refine (hrep _).mono ?_
  rintro e w9 ⟨rfl, hx⟩
  go_wp2_with fail
  go_ret
  exact ⟨by rw [← HR.out] <;> rfl, by rw [hB]; exact hHeld.2.trans (hx.mono (hB ▸ hHeld.2.size))⟩
set_option maxRecDepth 100000 in
set_option maxHeartbeats 2000000 in
theorem head_any (b n : Nat) (w : World) (hb : b < 65536) (hn : n < 65536) :
    Calls Tryd.prog 42 #[.agg (gc b n)] w fun e w' => e = .returned (.string (headT b n)) ∧ Below w.heap.size w w' := by
  have hrp1 := fun wr => rput_any b 2 2 wr (by omega) rfl
  have hrp2 := fun wr => rput_any n 2 2 wr (by omega) rfl
  have s1 := putB_size b 2
  have s2 := putB_size n 2
  have hz : ∀ wr, Calls Tryd.prog 57 #[.int .i64 120] wr fun e w' => e = .returned (.string (zs 120)) ∧ wr = w' := fun wr => zeros_any 120 wr (by omega)
  have HR := Lib.hid (head_cat' b n (List.replicate 120 0) rfl)
  have s3 := zs_size 120
  have s4 : (⟨(List.replicate 120 (0 : UInt8)).toArray⟩ : ByteArray) = zs 120 := by unfold zs; rw [← List.toArray_replicate]
  rw [s4] at HR
  clear s4
  generalize zs 120 = PZ at *
  generalize (⟨(Nu.putB b 2).toArray⟩ : ByteArray) = PB at *
  generalize (⟨(Nu.putB n 2).toArray⟩ : ByteArray) = PN at *
  have ob := Nm.Own.new w 58 (gc b n)
  have hg := grow w (Obj.cells (gc b n) 58)
  have e1 : IntKind.u64.wrap (b : Int) = (b : Int) := by rw [IntKind.wrap_u64]; omega
  have e2 : IntKind.u64.wrap (n : Int) = (n : Int) := by rw [IntKind.wrap_u64]; omega
  go_enter Tryd.func42, Tryd.ntmps42
  go_wp2_with fail
  generalize w.alloc (Obj.cells (gc b n) 58) = V at *
  refine wp_region_held_drew (S := fun w' => Nm.Own w' w.heap.size 58 (gc b n) ∧ Below w.heap.size w w') (by kernel_rfl) ⟨ob, hg.drew⟩ (fun hHeld => ?_)
  clear ob hg
  generalize V.drew = V0 at *
  generalize hB : w.heap.size = B at *
  refine wpAnyH_take (i := 0) (oi := { dst := some 3, op := Op.fieldAddr 58 (Operand.tmp 1) 0, type := _, pos := _, after := _, guard := _ }) (v := ?_) rfl (by kernel_rfl) (by kernel_rfl) (by kernel_rfl) (fun _ _ _ h => h) (Or.inl ⟨by rfl, ?_⟩) hHeld ?_
  rotate_left
  · intro wq hSw
    go_simp
    rfl
  try simp only [Act.put, List.setIfInBounds_toArray, List.set_cons_zero, List.set_cons_succ]
  refine wpAnyH_take (i := 1) (oi := { dst := some 4, op := Op.load 3 (Operand.tmp 3), type := _, pos := _, after := _, guard := _ }) (v := ?_) rfl (by kernel_rfl) (by kernel_rfl) (by kernel_rfl) (fun _ _ _ h => h) (Or.inl ⟨by rfl, ?_⟩) hHeld ?_
  rotate_left
  · intro wq hSw
    have d0 := hSw.1.cell 0
    have d1 := hSw.1.cell 1
    simp only [gc, List.getElem?_toArray, List.getElem?_cons_zero, List.getElem?_cons_succ] at d0 d1
    go_simp
    rfl
  try simp only [Act.put, List.setIfInBounds_toArray, List.set_cons_zero, List.set_cons_succ]
  refine wpAnyH_take (i := 2) (oi := { dst := some 5, op := Op.convert 3 55 (Operand.tmp 4), type := _, pos := _, after := _, guard := _ }) (v := ?_) rfl (by kernel_rfl) (by kernel_rfl) (by kernel_rfl) (fun _ _ _ h => h) (Or.inl ⟨by rfl, ?_⟩) hHeld ?_
  rotate_left
  · intro wq hSw
    go_simp
    rfl
  try simp only [Act.put, List.setIfInBounds_toArray, List.set_cons_zero, List.set_cons_succ]
  refine wpAnyH_take (i := 5) (oi := { dst := some 8, op := Op.fieldAddr 58 (Operand.tmp 1) 1, type := _, pos := _, after := _, guard := _ }) (v := ?_) rfl (by kernel_rfl) (by kernel_rfl) (by kernel_rfl) (fun _ _ _ h => h) (Or.inl ⟨by rfl, ?_⟩) hHeld ?_
  rotate_left
  · intro wq hSw
    go_simp
    rfl
  try simp only [Act.put, List.setIfInBounds_toArray, List.set_cons_zero, List.set_cons_succ]
  refine wpAnyH_take (i := 6) (oi := { dst := some 9, op := Op.load 3 (Operand.tmp 8), type := _, pos := _, after := _, guard := _ }) (v := ?_) rfl (by kernel_rfl) (by kernel_rfl) (by kernel_rfl) (fun _ _ _ h => h) (Or.inl ⟨by rfl, ?_⟩) hHeld ?_
  rotate_left
  · intro wq hSw
    have d0 := hSw.1.cell 0
    have d1 := hSw.1.cell 1
    simp only [gc, List.getElem?_toArray, List.getElem?_cons_zero, List.getElem?_cons_succ] at d0 d1
    go_simp
    rfl
  try simp only [Act.put, List.setIfInBounds_toArray, List.set_cons_zero, List.set_cons_succ]
  refine wpAnyH_take (i := 7) (oi := { dst := some 10, op := Op.convert 3 55 (Operand.tmp 9), type := _, pos := _, after := _, guard := _ }) (v := ?_) rfl (by kernel_rfl) (by kernel_rfl) (by kernel_rfl) (fun _ _ _ h => h) (Or.inl ⟨by rfl, ?_⟩) hHeld ?_
  rotate_left
  · intro wq hSw
    go_simp
    rfl
  try simp only [Act.put, List.setIfInBounds_toArray, List.set_cons_zero, List.set_cons_succ]
  refine wpAnyH_ready (rs := [3]) (by kernel_rfl) (by simp) ?_
  refine AllReadyH.cons (o := { dst := some 6, op := Op.call { callee := Callee.value (Operand.func 56), args := #[Operand.tmp 5, Operand.const (Value.int IntKind.i64 2)], argTypes := #[55, 3] }, type := _, pos := _, after := _, guard := _ }) rfl (fun KK hKK => ?_) AllReadyH.nil
  have hKS := Lib.hid hKK
  clear hKK
  go_simp
  refine (hrp1 _).mono ?_
  rintro e w3 ⟨rfl, hx⟩
  go_wp2_with fail
  have hH2 : Nm.Own w3 B 58 (gc b n) ∧ Below B w w3 := ⟨hHeld.1.below hx, hHeld.2.trans (hx.mono (hB ▸ hHeld.2.size))⟩
  refine hKS.out.out _ _ hH2 (fun hHeld => ?_)
  clear hKS KK hx
  try simp only [Act.put, List.setIfInBounds_toArray, List.set_cons_zero, List.set_cons_succ]
  refine wpAnyH_take (i := 4) (oi := { dst := some 7, op := Op.binOp BinOp.add 9 (Operand.const (Value.string { data := #[104, 105, 98, 49] })) (Operand.tmp 6) 9, type := _, pos := _, after := _, guard := _ }) (v := ?_) rfl (by kernel_rfl) (by kernel_rfl) (by kernel_rfl) (fun _ _ _ h => h) (Or.inl ⟨by rfl, ?_⟩) hHeld ?_
  rotate_left
  · intro wq hSw
    go_simp
    rfl
  try simp only [Act.put, List.setIfInBounds_toArray, List.set_cons_zero, List.set_cons_succ]
  refine wpAnyH_ready (rs := [8]) (by kernel_rfl) (by simp) ?_
  refine AllReadyH.cons (o := { dst := some 11, op := Op.call { callee := Callee.value (Operand.func 56), args := #[Operand.tmp 10, Operand.const (Value.int IntKind.i64 2)], argTypes := #[55, 3] }, type := _, pos := _, after := _, guard := _ }) rfl (fun KK hKK => ?_) AllReadyH.nil
  have hKS := Lib.hid hKK
  clear hKK
  go_simp
  refine (hrp2 _).mono ?_
  rintro e w8 ⟨rfl, hx⟩
  go_wp2_with fail
  have hH2 : Nm.Own w8 B 58 (gc b n) ∧ Below B w w8 := ⟨hHeld.1.below hx, hHeld.2.trans (hx.mono (hB ▸ hHeld.2.size))⟩
  refine hKS.out.out _ _ hH2 (fun hHeld => ?_)
  clear hKS KK hx
  try simp only [Act.put, List.setIfInBounds_toArray, List.set_cons_zero, List.set_cons_succ]
  refine wpAnyH_take (i := 9) (oi := { dst := some 12, op := Op.binOp BinOp.add 9 (Operand.tmp 7) (Operand.tmp 11) 9, type := _, pos := _, after := _, guard := _ }) (v := ?_) rfl (by kernel_rfl) (by kernel_rfl) (by kernel_rfl) (fun _ _ _ h => h) (Or.inl ⟨by rfl, ?_⟩) hHeld ?_
  rotate_left
  · intro wq hSw
    go_simp
    rfl
  try simp only [Act.put, List.setIfInBounds_toArray, List.set_cons_zero, List.set_cons_succ]
  refine wpAnyH_ready (rs := [10]) (by kernel_rfl) (by simp) ?_
  refine AllReadyH.cons (o := { dst := some 13, op := Op.call { callee := Callee.value (Operand.func 57), args := #[Operand.const (Value.int IntKind.i64 120)], argTypes := #[3] }, type := _, pos := _, after := _, guard := _ }) rfl (fun KK hKK => ?_) AllReadyH.nil
  have hKS := Lib.hid hKK
  clear hKK
  go_simp
  refine (hz _).mono ?_
  rintro e w10 ⟨rfl, rfl⟩
  go_wp2_with fail
  refine hKS.out.out _ _ hHeld (fun hHeld => ?_)
  clear hKS KK
  try simp only [Act.put, List.setIfInBounds_toArray, List.set_cons_zero, List.set_cons_succ]
  refine wpAnyH_take (i := 11) (oi := { dst := some 14, op := Op.binOp BinOp.add 9 (Operand.tmp 12) (Operand.tmp 13) 9, type := _, pos := _, after := _, guard := _ }) (v := ?_) rfl (by kernel_rfl) (by kernel_rfl) (by kernel_rfl) (fun _ _ _ h => h) (Or.inl ⟨by rfl, ?_⟩) hHeld ?_
  rotate_left
  · intro wq hSw
    go_simp
    rfl
  try simp only [Act.put, List.setIfInBounds_toArray, List.set_cons_zero, List.set_cons_succ]
  refine wpAnyH_take (i := 12) (oi := { dst := some 2, op := Op.assign (Operand.tmp 14), type := _, pos := _, after := _, guard := _ }) (v := ?_) rfl (by kernel_rfl) (by kernel_rfl) (by kernel_rfl) (fun _ _ _ h => h) (Or.inl ⟨by rfl, ?_⟩) hHeld ?_
  rotate_left
  · intro wq hSw
    go_simp
    rfl
  try simp only [Act.put, List.setIfInBounds_toArray, List.set_cons_zero, List.set_cons_succ]
  refine wpAnyH_done (by kernel_rfl) ?_ _
  go_wp2_with fail
  go_ret
  exact ⟨by rw [← HR.out] <;> rfl, by rw [hB]; exact hHeld.2⟩
theorem pred_any (T : ByteArray) (w : World) (h : T.size ≤ 9223372036854775807) :
    Calls Tryd.prog 45 #[.string T] w fun e w' => e = .returned (.bool (decide (T.size ≠ 128))) ∧ w = w' := by
  by_cases hT : T.size = 128
  · go_enter Tryd.func45, Tryd.ntmps45
    go_wp2_with fail
    go_ret
    exact ⟨by rw [decide_eq_false (fun h => h hT)] <;> rfl, rfl⟩
  · have hT' : ¬ (T.size : Int) = 128 := by omega
    have hT2 : ((T.size : Int) != 128) = true := by rw [bne_iff_ne]; exact hT'
    have H := Lib.hid hT
    clear hT
    go_enter Tryd.func45, Tryd.ntmps45
    go_wp2_with fail
    go_ret
    exact ⟨by rw [decide_eq_true H.out] <;> rfl, rfl⟩
end Dw
end Go.Proofs.YtambgmjiafcokaaDoor
