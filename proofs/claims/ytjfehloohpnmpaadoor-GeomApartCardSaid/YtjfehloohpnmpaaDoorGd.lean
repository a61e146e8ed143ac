/-
  THE WALKS of the map's turned text, and of the question whether the map fits a plan.
-/
import Derived.Test.YtjfehloohpnmpaaDoorGc
namespace Go.Proofs.YtjfehloohpnmpaaDoor
set_option linter.unusedVariables false
set_option maxRecDepth 100000
set_option linter.unusedSimpArgs false
open Go.RowKit
namespace Dw
open _root_.Go.Proofs.YtjfehloohpnmpaaDoor.Nm
theorem turn_cat (T : ByteArray) (i : Nat) (h : i / 8 < T.size) (y : UInt8) (hy : (toL T).getD (i / 8) 0 = y) : T.extract 0 (i / 8) ++ (⟨#[Gm.flip y (i % 8)]⟩ : ByteArray) ++ T.extract (i / 8 + 1) T.size = turnT T i := by
  apply toL_inj
  rw [toL_turn, toL_app', toL_app', toL_extract, toL_extract]
  unfold Gm.turn
  rw [hy]
  have hl : i / 8 < (toL T).length := by rw [toL_length]; exact h
  rw [List.set_eq_take_append_cons_drop, if_pos hl, List.drop_zero, Nat.sub_zero, List.take_of_length_le (l := (toL T).drop _) (by rw [List.length_drop, toL_length]; omega)]
  simp [toL]
theorem below_alloc {B : Nat} {w w' : World} (h : Below B w w') (hB : w.heap.size = B) (o : Obj) : Below B w (w'.alloc o) := Below.alloc h (by have := h.size; omega) o
set_option maxRecDepth 100000 in
set_option maxHeartbeats 2000000 in
theorem rturn_any (T : ByteArray) (i : Nat) (w : World) (hs : T.size = 128) (hi : i < 1024) :
    Calls Tryd.prog 31 #[.string T, .int .i64 (i : Int)] w fun e w' => e = .returned (.string (turnT T i)) ∧ Below w.heap.size w w' := by
  have hlt : i / 8 < T.size := by omega
  have hyT : T[i / 8] = (toL T).getD (i / 8) 0 := by
    rw [List.getD_eq_getElem?_getD, List.getElem?_eq_getElem (by rw [toL_length]; exact hlt)]; rfl
  have q1 : IntKind.i64.wrap ((i : Int) / 8) = (i : Int) / 8 := IntWalk.i64_in _ (by omega)
  have q2 : (0 : Int) ≤ (i : Int) / 8 ∧ (i : Int) / 8 < 128 := by omega
  have q3 : ((i : Int) / 8).toNat = i / 8 := rfl
  have q4 : ((i : Int) / 8 + 1).toNat = i / 8 + 1 := rfl
  have q5 : IntKind.u8.wrap (2 ^ min ((i : Int).tmod 8).toNat 8) = pw i := pow_u8 i
  have q6 : bits .xor .u8 (((toL T).getD (i / 8) 0).toNat : Int) (pw i) = ((Gm.flip ((toL T).getD (i / 8) 0) (i % 8)).toNat : Int) := xor_flip _ i
  have q7 : IntKind.i64.wrap ((i : Int) / 8 + 1) = (i : Int) / 8 + 1 := IntWalk.i64_in _ (by omega)
  have q8 : (i : Int) / 8 ≤ 128 := by omega
  have q9 : 0 ≤ (i : Int) / 8 + 1 ∧ (i : Int) / 8 + 1 ≤ 128 := by omega
  have hR := turn_cat T i hlt _ rfl
  rw [hs] at hR
  have z1 : (T.extract 0 (i / 8)).size = i / 8 := by rw [ByteArray.size_extract]; omega
  have z2 : (T.extract (i / 8 + 1) 128).size = 127 - i / 8 := by rw [ByteArray.size_extract]; omega
  have HR := Lib.hid hR
  clear hR
  generalize hX : T.extract 0 (i / 8) = X at *
  generalize hY : T.extract (i / 8 + 1) 128 = Y at *
  have z3 : ¬ 9223372036854775807 < X.size + 1 := by omega
  have z4 : ¬ 9223372036854775807 < X.size + 1 + Y.size := by omega
  clear z1 z2
  generalize (toL T).getD (i / 8) 0 = y at *
  have HF := Lib.hid (show (⟨#[UInt8.ofNat (((Gm.flip y (i % 8)).toNat : Int)).toNat]⟩ : ByteArray) = ⟨#[Gm.flip y (i % 8)]⟩ by rw [Int.toNat_natCast, UInt8.ofNat_toNat])
  have hb := Below.refl w.heap.size w
  go_enter Tryd.func31, Tryd.ntmps31
  go_wp2_with fail
  refine wp_region_held_drew (S := fun w' => Below w.heap.size w w') (by kernel_rfl) hb.drew (fun hHeld => ?_)
  clear hb
  have hB' : w.drew.heap.size = w.heap.size := rfl
  generalize w.drew = V0 at *
  generalize hB : w.heap.size = B at *
  refine wpAnyH_take (i := 0) (oi := { dst := some 5, op := Op.move (Operand.tmp 0), type := _, pos := _, after := _, guard := _ }) (v := ?_) rfl (by kernel_rfl) (by kernel_rfl) (by kernel_rfl) (fun _ _ _ h => h) (Or.inl ⟨by rfl, ?_⟩) hHeld ?_
  rotate_left
  · intro wq hSw
    go_simp
    rfl
  try simp only [Act.put, List.setIfInBounds_toArray, List.set_cons_zero, List.set_cons_succ]
  refine wpAnyH_take (i := 1) (oi := { dst := some 6, op := Op.move (Operand.tmp 1), type := _, pos := _, after := _, guard := _ }) (v := ?_) rfl (by kernel_rfl) (by kernel_rfl) (by kernel_rfl) (fun _ _ _ h => h) (Or.inl ⟨by rfl, ?_⟩) hHeld ?_
  rotate_left
  · intro wq hSw
    go_simp
    rfl
  try simp only [Act.put, List.setIfInBounds_toArray, List.set_cons_zero, List.set_cons_succ]
  refine wpAnyH_take (i := 2) (oi := { dst := some 7, op := Op.binOp BinOp.quo 3 (Operand.tmp 6) (Operand.const (Value.int IntKind.i64 8)) 3, type := _, pos := _, after := _, guard := _ }) (v := ?_) rfl (by kernel_rfl) (by kernel_rfl) (by kernel_rfl) (fun _ _ _ h => h) (Or.inl ⟨by rfl, ?_⟩) hHeld ?_
  rotate_left
  · intro wq hSw
    go_simp
    rfl
  try simp only [Act.put, List.setIfInBounds_toArray, List.set_cons_zero, List.set_cons_succ]
  refine wpAnyH_take (i := 3) (oi := { dst := some 8, op := Op.slice 9 (Operand.tmp 5) none (some (Operand.tmp 7)) none, type := _, pos := _, after := _, guard := _ }) (v := ?_) rfl (by kernel_rfl) (by kernel_rfl) (by kernel_rfl) (fun _ _ _ h => h) (Or.inl ⟨by rfl, ?_⟩) hHeld ?_
  rotate_left
  · intro wq hSw
    go_simp
    rfl
  try simp only [Act.put, List.setIfInBounds_toArray, List.set_cons_zero, List.set_cons_succ]
  refine wpAnyH_take (i := 4) (oi := { dst := some 9, op := Op.move (Operand.tmp 0), type := _, pos := _, after := _, guard := _ }) (v := ?_) rfl (by kernel_rfl) (by kernel_rfl) (by kernel_rfl) (fun _ _ _ h => h) (Or.inl ⟨by rfl, ?_⟩) hHeld ?_
  rotate_left
  · intro wq hSw
    go_simp
    rfl
  try simp only [Act.put, List.setIfInBounds_toArray, List.set_cons_zero, List.set_cons_succ]
  refine wpAnyH_take (i := 5) (oi := { dst := some 10, op := Op.move (Operand.tmp 1), type := _, pos := _, after := _, guard := _ }) (v := ?_) rfl (by kernel_rfl) (by kernel_rfl) (by kernel_rfl) (fun _ _ _ h => h) (Or.inl ⟨by rfl, ?_⟩) hHeld ?_
  rotate_left
  · intro wq hSw
    go_simp
    rfl
  try simp only [Act.put, List.setIfInBounds_toArray, List.set_cons_zero, List.set_cons_succ]
  refine wpAnyH_take (i := 6) (oi := { dst := some 11, op := Op.binOp BinOp.quo 3 (Operand.tmp 10) (Operand.const (Value.int IntKind.i64 8)) 3, type := _, pos := _, after := _, guard := _ }) (v := ?_) rfl (by kernel_rfl) (by kernel_rfl) (by kernel_rfl) (fun _ _ _ h => h) (Or.inl ⟨by rfl, ?_⟩) hHeld ?_
  rotate_left
  · intro wq hSw
    go_simp
    rfl
  try simp only [Act.put, List.setIfInBounds_toArray, List.set_cons_zero, List.set_cons_succ]
  refine wpAnyH_take (i := 7) (oi := { dst := some 12, op := Op.index 9 (Operand.tmp 9) (Operand.tmp 11), type := _, pos := _, after := _, guard := _ }) (v := ?_) rfl (by kernel_rfl) (by kernel_rfl) (by kernel_rfl) (fun _ _ _ h => h) (Or.inl ⟨by rfl, ?_⟩) hHeld ?_
  rotate_left
  · intro wq hSw
    go_simp
    rfl
  try simp only [Act.put, List.setIfInBounds_toArray, List.set_cons_zero, List.set_cons_succ]
  refine wpAnyH_take (i := 8) (oi := { dst := some 13, op := Op.move (Operand.tmp 1), type := _, pos := _, after := _, guard := _ }) (v := ?_) rfl (by kernel_rfl) (by kernel_rfl) (by kernel_rfl) (fun _ _ _ h => h) (Or.inl ⟨by rfl, ?_⟩) hHeld ?_
  rotate_left
  · intro wq hSw
    go_simp
    rfl
  try simp only [Act.put, List.setIfInBounds_toArray, List.set_cons_zero, List.set_cons_succ]
  refine wpAnyH_take (i := 9) (oi := { dst := some 14, op := Op.binOp BinOp.rem 3 (Operand.tmp 13) (Operand.const (Value.int IntKind.i64 8)) 3, type := _, pos := _, after := _, guard := _ }) (v := ?_) rfl (by kernel_rfl) (by kernel_rfl) (by kernel_rfl) (fun _ _ _ h => h) (Or.inl ⟨by rfl, ?_⟩) hHeld ?_
  rotate_left
  · intro wq hSw
    go_simp
    rfl
  try simp only [Act.put, List.setIfInBounds_toArray, List.set_cons_zero, List.set_cons_succ]
  refine wpAnyH_take (i := 10) (oi := { dst := some 15, op := Op.binOp BinOp.shl 5 (Operand.const (Value.int IntKind.u8 1)) (Operand.tmp 14) 3, type := _, pos := _, after := _, guard := _ }) (v := ?_) rfl (by kernel_rfl) (by kernel_rfl) (by kernel_rfl) (fun _ _ _ h => h) (Or.inl ⟨by rfl, ?_⟩) hHeld ?_
  rotate_left
  · intro wq hSw
    go_simp
    rfl
  try simp only [Act.put, List.setIfInBounds_toArray, List.set_cons_zero, List.set_cons_succ]
  refine wpAnyH_take (i := 11) (oi := { dst := some 16, op := Op.binOp BinOp.xor 5 (Operand.tmp 12) (Operand.tmp 15) 5, type := _, pos := _, after := _, guard := _ }) (v := ?_) rfl (by kernel_rfl) (by kernel_rfl) (by kernel_rfl) (fun _ _ _ h => h) (Or.inl ⟨by rfl, ?_⟩) hHeld ?_
  rotate_left
  · intro wq hSw
    go_simp
    rfl
  try simp only [Act.put, List.setIfInBounds_toArray, List.set_cons_zero, List.set_cons_succ]
  refine wpAnyH_take (i := 15) (oi := { dst := some 20, op := Op.move (Operand.tmp 0), type := _, pos := _, after := _, guard := _ }) (v := ?_) rfl (by kernel_rfl) (by kernel_rfl) (by kernel_rfl) (fun _ _ _ h => h) (Or.inl ⟨by rfl, ?_⟩) hHeld ?_
  rotate_left
  · intro wq hSw
    go_simp
    rfl
  try simp only [Act.put, List.setIfInBounds_toArray, List.set_cons_zero, List.set_cons_succ]
  refine wpAnyH_take (i := 16) (oi := { dst := some 21, op := Op.move (Operand.tmp 1), type := _, pos := _, after := _, guard := _ }) (v := ?_) rfl (by kernel_rfl) (by kernel_rfl) (by kernel_rfl) (fun _ _ _ h => h) (Or.inl ⟨by rfl, ?_⟩) hHeld ?_
  rotate_left
  · intro wq hSw
    go_simp
    rfl
  try simp only [Act.put, List.setIfInBounds_toArray, List.set_cons_zero, List.set_cons_succ]
  refine wpAnyH_take (i := 17) (oi := { dst := some 22, op := Op.binOp BinOp.quo 3 (Operand.tmp 21) (Operand.const (Value.int IntKind.i64 8)) 3, type := _, pos := _, after := _, guard := _ }) (v := ?_) rfl (by kernel_rfl) (by kernel_rfl) (by kernel_rfl) (fun _ _ _ h => h) (Or.inl ⟨by rfl, ?_⟩) hHeld ?_
  rotate_left
  · intro wq hSw
    go_simp
    rfl
  try simp only [Act.put, List.setIfInBounds_toArray, List.set_cons_zero, List.set_cons_succ]
  refine wpAnyH_take (i := 18) (oi := { dst := some 23, op := Op.binOp BinOp.add 3 (Operand.tmp 22) (Operand.const (Value.int IntKind.i64 1)) 3, type := _, pos := _, after := _, guard := _ }) (v := ?_) rfl (by kernel_rfl) (by kernel_rfl) (by kernel_rfl) (fun _ _ _ h => h) (Or.inl ⟨by rfl, ?_⟩) hHeld ?_
  rotate_left
  · intro wq hSw
    go_simp
    rfl
  try simp only [Act.put, List.setIfInBounds_toArray, List.set_cons_zero, List.set_cons_succ]
  refine wpAnyH_take (i := 19) (oi := { dst := some 24, op := Op.slice 9 (Operand.tmp 20) (some (Operand.tmp 23)) none none, type := _, pos := _, after := _, guard := _ }) (v := ?_) rfl (by kernel_rfl) (by kernel_rfl) (by kernel_rfl) (fun _ _ _ h => h) (Or.inl ⟨by rfl, ?_⟩) hHeld ?_
  rotate_left
  · intro wq hSw
    go_simp
    rfl
  try simp only [Act.put, List.setIfInBounds_toArray, List.set_cons_zero, List.set_cons_succ]
  refine wpAnyH_ready (rs := [12]) (by kernel_rfl) (by simp) ?_
  refine AllReadyH.cons (o := { dst := some 17, op := Op.buildSlice 62 1 #[(0, Operand.tmp 16)], type := _, pos := _, after := _, guard := _ }) rfl (fun KK hKK => ?_) AllReadyH.nil
  have hKS := Lib.hid hKK
  clear hKK
  go_simp
  have hx := hHeld.alloc (Nat.le_of_eq hB'.symm) (Obj.cells #[.int .u8 ((Gm.flip y (i % 8)).toNat : Int)] 5)
  have o1 := Nm.Own.new V0 5 #[.int .u8 ((Gm.flip y (i % 8)).toNat : Int)]
  rw [hB'] at o1
  have cv := conv_one _ _ _ (o1.cell 0)
  rw [HF.out] at cv
  refine hKS.out.out _ _ hx (fun hHeld => ?_)
  clear hKS KK hx
  generalize World.alloc V0 (Obj.cells #[.int .u8 ((Gm.flip y (i % 8)).toNat : Int)] 5) = v12 at *
  try simp only [Act.put, List.setIfInBounds_toArray, List.set_cons_zero, List.set_cons_succ]
  refine wpAnyH_ready (rs := [13]) (by kernel_rfl) (by simp) ?_
  refine AllReadyH.cons (o := { dst := some 18, op := Op.convert 62 9 (Operand.tmp 17), type := _, pos := _, after := _, guard := _ }) rfl (fun KK hKK => ?_) AllReadyH.nil
  have hKS := Lib.hid hKK
  clear hKK
  go_simp
  refine hKS.out.out _ _ hHeld (fun hHeld => ?_)
  clear hKS KK cv o1
  try simp only [Act.put, List.setIfInBounds_toArray, List.set_cons_zero, List.set_cons_succ]
  refine wpAnyH_take (i := 14) (oi := { dst := some 19, op := Op.binOp BinOp.add 9 (Operand.tmp 8) (Operand.tmp 18) 9, type := _, pos := _, after := _, guard := _ }) (v := ?_) rfl (by kernel_rfl) (by kernel_rfl) (by kernel_rfl) (fun _ _ _ h => h) (Or.inl ⟨by rfl, ?_⟩) hHeld ?_
  rotate_left
  · intro wq hSw
    go_simp
    rfl
  try simp only [Act.put, List.setIfInBounds_toArray, List.set_cons_zero, List.set_cons_succ]
  refine wpAnyH_take (i := 20) (oi := { dst := some 25, op := Op.binOp BinOp.add 9 (Operand.tmp 19) (Operand.tmp 24) 9, type := _, pos := _, after := _, guard := _ }) (v := ?_) rfl (by kernel_rfl) (by kernel_rfl) (by kernel_rfl) (fun _ _ _ h => h) (Or.inl ⟨by rfl, ?_⟩) hHeld ?_
  rotate_left
  · intro wq hSw
    go_simp
    rfl
  try simp only [Act.put, List.setIfInBounds_toArray, List.set_cons_zero, List.set_cons_succ]
  refine wpAnyH_take (i := 21) (oi := { dst := some 4, op := Op.assign (Operand.tmp 25), type := _, pos := _, after := _, guard := _ }) (v := ?_) rfl (by kernel_rfl) (by kernel_rfl) (by kernel_rfl) (fun _ _ _ h => h) (Or.inl ⟨by rfl, ?_⟩) hHeld ?_
  rotate_left
  · intro wq hSw
    go_simp
    rfl
  try simp only [Act.put, List.setIfInBounds_toArray, List.set_cons_zero, List.set_cons_succ]
  refine wpAnyH_done (by kernel_rfl) ?_ _
  go_wp2_with fail
  go_ret
  exact ⟨by rw [← HR.out] <;> rfl, by rw [hB]; exact hHeld⟩
end Dw
end Go.Proofs.YtjfehloohpnmpaaDoor
