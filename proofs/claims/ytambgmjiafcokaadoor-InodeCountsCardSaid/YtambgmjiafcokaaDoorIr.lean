/-
  THE WALKS of the document's small functions: a word of two bytes, two bytes of a number, within.
-/
import Derived.Test.YtambgmjiafcokaaDoorIq
namespace Go.Proofs.YtambgmjiafcokaaDoor
set_option linter.unusedVariables false
set_option maxRecDepth 100000
set_option linter.unusedSimpArgs false
open Go.RowKit
namespace Dw
open _root_.Go.Proofs.YtambgmjiafcokaaDoor.Nm
/-- a word -/
def wd (s : List UInt8) (i : Nat) : Nat := Nu.getB ((s.drop i).take 2)
theorem wd_lt (s : List UInt8) (i : Nat) : wd s i < 65536 := by
  refine Nat.lt_of_lt_of_le (Nu.getB_lt _) ?_
  exact Nat.pow_le_pow_right (by decide) (List.length_take_le _ _)
theorem wd_val (T : ByteArray) (i : Nat) (h : i + 1 < T.size) : wd (toL T) i = T[i].toNat + 256 * T[i + 1].toNat := by
  have hl : i + 1 < (toL T).length := by rw [toL_length]; exact h
  unfold wd
  rw [List.drop_eq_getElem_cons (by omega), List.drop_eq_getElem_cons (show i + 1 < (toL T).length from hl)]
  show (toL T)[i].toNat + 256 * ((toL T)[i + 1].toNat + 256 * 0) = _
  rw [Nat.mul_zero, Nat.add_zero]
  simp [toL]
  rfl
theorem word_any (T : ByteArray) (i : Nat) (w : World) (h : i + 1 < T.size) (hs : T.size ≤ 1000) :
    Calls Tryd.prog 44 #[.string T, .int .i64 (i : Int)] w fun e w' => e = .returned (.int .i64 (wd (toL T) i : Nat)) ∧ Below w.heap.size w w' := by
  have hv := wd_val T i h
  have b0 : (T[i].toNat) < 256 := T[i].toNat_lt
  have b1 : (T[i + 1].toNat) < 256 := T[i + 1].toNat_lt
  have i1 : (i : Int) < (T.size : Int) := by omega
  have i2 : (i : Int) + 1 < (T.size : Int) := by omega
  have e0 : IntKind.i64.wrap ((i : Int) + 1) = (i : Int) + 1 := IntWalk.i64_in _ (by omega)
  have e1 : IntKind.i64.wrap (256 * (T[i + 1].toNat : Int)) = 256 * (T[i + 1].toNat : Int) := IntWalk.i64_in _ (by omega)
  have e2 : IntKind.i64.wrap ((T[i].toNat : Int) + 256 * (T[i + 1].toNat : Int)) = (T[i].toNat : Int) + 256 * (T[i + 1].toNat : Int) := IntWalk.i64_in _ (by omega)
  have e3 : IntKind.i64.wrap (T[i].toNat : Int) = (T[i].toNat : Int) := IntWalk.i64_in _ (by omega)
  have e4 : IntKind.i64.wrap (T[i + 1].toNat : Int) = (T[i + 1].toNat : Int) := IntWalk.i64_in _ (by omega)
  have n0 : (i : Int).toNat = i := rfl
  have n1 : ((i : Int) + 1).toNat = i + 1 := by omega
  have HV := Lib.hid hv
  clear hv
  go_enter Tryd.func44, Tryd.ntmps44
  go_wp2_with fail
  refine wp_region_held_drew (S := fun _ => True) (by kernel_rfl) trivial (fun hHeld => ?_)
  refine wpAnyH_take (i := 0) (oi := { dst := some 5, op := Op.move (Operand.tmp 0), type := _, pos := _, after := _, guard := _ }) (v := ?_) rfl (by kernel_rfl) (by kernel_rfl) (by kernel_rfl) (fun _ _ _ h => h) (Or.inl ⟨by rfl, ?_⟩) hHeld ?_
  rotate_left
  · intro wq hSw
    go_simp
    rfl
  try simp only [Act.put, List.setIfInBounds_toArray, List.set_cons_zero, List.set_cons_succ]
  refine wpAnyH_take (i := 1) (oi := { dst := some 6, op := Op.move (Operand.tmp 1), type := _, pos := _, after := _, guard := _ }) (v := ?_) rfl (by kernel_rfl) (by kernel_rfl) (by kernel_rfl) (fun _ _ _ h => h) (Or.inl ⟨by rfl, ?_⟩) hHeld ?_
  rotate_left
  · intro wq hSw
    go_simp
    rfl
  try simp only [Act.put, List.setIfInBounds_toArray, List.set_cons_zero, List.set_cons_succ]
  refine wpAnyH_take (i := 2) (oi := { dst := some 7, op := Op.index 9 (Operand.tmp 5) (Operand.tmp 6), type := _, pos := _, after := _, guard := _ }) (v := ?_) rfl (by kernel_rfl) (by kernel_rfl) (by kernel_rfl) (fun _ _ _ h => h) (Or.inl ⟨by rfl, ?_⟩) hHeld ?_
  rotate_left
  · intro wq hSw
    go_simp
    rfl
  try simp only [Act.put, List.setIfInBounds_toArray, List.set_cons_zero, List.set_cons_succ]
  refine wpAnyH_take (i := 3) (oi := { dst := some 8, op := Op.convert 5 3 (Operand.tmp 7), type := _, pos := _, after := _, guard := _ }) (v := ?_) rfl (by kernel_rfl) (by kernel_rfl) (by kernel_rfl) (fun _ _ _ h => h) (Or.inl ⟨by rfl, ?_⟩) hHeld ?_
  rotate_left
  · intro wq hSw
    go_simp
    rfl
  try simp only [Act.put, List.setIfInBounds_toArray, List.set_cons_zero, List.set_cons_succ]
  refine wpAnyH_take (i := 4) (oi := { dst := some 9, op := Op.move (Operand.tmp 0), type := _, pos := _, after := _, guard := _ }) (v := ?_) rfl (by kernel_rfl) (by kernel_rfl) (by kernel_rfl) (fun _ _ _ h => h) (Or.inl ⟨by rfl, ?_⟩) hHeld ?_
  rotate_left
  · intro wq hSw
    go_simp
    rfl
  try simp only [Act.put, List.setIfInBounds_toArray, List.set_cons_zero, List.set_cons_succ]
  refine wpAnyH_take (i := 5) (oi := { dst := some 10, op := Op.move (Operand.tmp 1), type := _, pos := _, after := _, guard := _ }) (v := ?_) rfl (by kernel_rfl) (by kernel_rfl) (by kernel_rfl) (fun _ _ _ h => h) (Or.inl ⟨by rfl, ?_⟩) hHeld ?_
  rotate_left
  · intro wq hSw
    go_simp
    rfl
  try simp only [Act.put, List.setIfInBounds_toArray, List.set_cons_zero, List.set_cons_succ]
  refine wpAnyH_take (i := 6) (oi := { dst := some 11, op := Op.binOp BinOp.add 3 (Operand.tmp 10) (Operand.const (Value.int IntKind.i64 1)) 3, type := _, pos := _, after := _, guard := _ }) (v := ?_) rfl (by kernel_rfl) (by kernel_rfl) (by kernel_rfl) (fun _ _ _ h => h) (Or.inl ⟨by rfl, ?_⟩) hHeld ?_
  rotate_left
  · intro wq hSw
    go_simp
    rfl
  try simp only [Act.put, List.setIfInBounds_toArray, List.set_cons_zero, List.set_cons_succ]
  refine wpAnyH_take (i := 7) (oi := { dst := some 12, op := Op.index 9 (Operand.tmp 9) (Operand.tmp 11), type := _, pos := _, after := _, guard := _ }) (v := ?_) rfl (by kernel_rfl) (by kernel_rfl) (by kernel_rfl) (fun _ _ _ h => h) (Or.inl ⟨by rfl, ?_⟩) hHeld ?_
  rotate_left
  · intro wq hSw
    go_simp
    rfl
  try simp only [Act.put, List.setIfInBounds_toArray, List.set_cons_zero, List.set_cons_succ]
  refine wpAnyH_take (i := 8) (oi := { dst := some 13, op := Op.convert 5 3 (Operand.tmp 12), type := _, pos := _, after := _, guard := _ }) (v := ?_) rfl (by kernel_rfl) (by kernel_rfl) (by kernel_rfl) (fun _ _ _ h => h) (Or.inl ⟨by rfl, ?_⟩) hHeld ?_
  rotate_left
  · intro wq hSw
    go_simp
    rfl
  try simp only [Act.put, List.setIfInBounds_toArray, List.set_cons_zero, List.set_cons_succ]
  refine wpAnyH_take (i := 9) (oi := { dst := some 14, op := Op.binOp BinOp.mul 3 (Operand.const (Value.int IntKind.i64 256)) (Operand.tmp 13) 3, type := _, pos := _, after := _, guard := _ }) (v := ?_) rfl (by kernel_rfl) (by kernel_rfl) (by kernel_rfl) (fun _ _ _ h => h) (Or.inl ⟨by rfl, ?_⟩) hHeld ?_
  rotate_left
  · intro wq hSw
    go_simp
    rfl
  try simp only [Act.put, List.setIfInBounds_toArray, List.set_cons_zero, List.set_cons_succ]
  refine wpAnyH_take (i := 10) (oi := { dst := some 15, op := Op.binOp BinOp.add 3 (Operand.tmp 8) (Operand.tmp 14) 3, type := _, pos := _, after := _, guard := _ }) (v := ?_) rfl (by kernel_rfl) (by kernel_rfl) (by kernel_rfl) (fun _ _ _ h => h) (Or.inl ⟨by rfl, ?_⟩) hHeld ?_
  rotate_left
  · intro wq hSw
    go_simp
    rfl
  try simp only [Act.put, List.setIfInBounds_toArray, List.set_cons_zero, List.set_cons_succ]
  refine wpAnyH_take (i := 11) (oi := { dst := some 4, op := Op.assign (Operand.tmp 15), type := _, pos := _, after := _, guard := _ }) (v := ?_) rfl (by kernel_rfl) (by kernel_rfl) (by kernel_rfl) (fun _ _ _ h => h) (Or.inl ⟨by rfl, ?_⟩) hHeld ?_
  rotate_left
  · intro wq hSw
    go_simp
    rfl
  try simp only [Act.put, List.setIfInBounds_toArray, List.set_cons_zero, List.set_cons_succ]
  refine wpAnyH_done (by kernel_rfl) ?_ _
  go_wp2_with fail
  go_ret
  refine ⟨?_, (Below.refl _ _).drew⟩
  rw [HV.out]
  simp
theorem mod_u8 (n : Nat) : IntKind.u8.wrap (((n % 256 : Nat)) : Int) = ((n % 256 : Nat) : Int) := by rw [IntKind.wrap_u8]; omega
theorem two_any (n : Nat) (w : World) (hn : n < 65536) :
    Calls Tryd.prog 49 #[.int .i64 (n : Int)] w fun e w' => e = .returned (.string ⟨(Nu.putB n 2).toArray⟩) ∧ Below w.heap.size w w' := by
  have e1 : (n : Int).tmod 256 = ((n % 256 : Nat) : Int) := rfl
  have e1' : (n : Int) % 256 = ((n % 256 : Nat) : Int) := rfl
  have e2 : (n : Int).tdiv 256 = ((n / 256 : Nat) : Int) := rfl
  have e2' : (n : Int) / 256 = ((n / 256 : Nat) : Int) := rfl
  have e3 : ((n / 256 : Nat) : Int).tmod 256 = ((n / 256 % 256 : Nat) : Int) := rfl
  have e3' : ((n / 256 : Nat) : Int) % 256 = ((n / 256 % 256 : Nat) : Int) := rfl
  have m1 := mod_u8 n
  have m2 := mod_u8 (n / 256)
  have hl1 : n % 256 < 256 := Nat.mod_lt _ (by omega)
  have hl2 : n / 256 % 256 < 256 := Nat.mod_lt _ (by omega)
  have hq : n / 256 < 256 := by omega
  have HP := Lib.hid (show (Nu.putB n 2) = [UInt8.ofNat (n % 256), UInt8.ofNat (n / 256 % 256)] from rfl)
  generalize n % 256 = a at *
  generalize hqe : n / 256 = q at *
  generalize q % 256 = b at *
  have w1 : IntKind.i64.wrap (a : Int) = (a : Int) := IntWalk.i64_in _ (by omega)
  have w2 : IntKind.i64.wrap (q : Int) = (q : Int) := IntWalk.i64_in _ (by omega)
  have w3 : IntKind.i64.wrap (b : Int) = (b : Int) := IntWalk.i64_in _ (by omega)
  have hC := (run_convert_bytes_arg (w.alloc (Obj.cells #[.int .u8 (a : Int), .int .u8 (b : Int)] 5)) 78 5 Tryd.underlying78 Tryd.underlying5 w.heap.size 0 2 2 [(a : Int), (b : Int)] rfl (fun i hi => by
    have o := Nm.Own.new w 5 #[.int .u8 (a : Int), .int .u8 (b : Int)]
    rw [Nat.zero_add, o.cell i]
    match i, hi with
    | 0, _ => rfl
    | 1, _ => rfl) 9 Tryd.underlying9)
  have hb := grow w (Obj.cells #[.int .u8 (a : Int), .int .u8 (b : Int)] 5)
  clear hqe hn
  go_enter Tryd.func49, Tryd.ntmps49
  go_wp2_with fail
  go_ret
  refine ⟨?_, hb⟩
  rw [HP.out]
  rfl
/-- from 0 to another number -/
def wi (n m : Int) : Bool := decide (0 ≤ n ∧ n ≤ m)
theorem within_any (n m : Int) (w : World) : Calls Tryd.prog 48 #[.int .i64 n, .int .i64 m] w fun e w' => e = .returned (.bool (wi n m)) ∧ w = w' := by
  by_cases h0 : 0 ≤ n
  · have hd0 : decide (0 ≤ n) = true := decide_eq_true h0
    have HW := Lib.hid (show wi n m = decide (n ≤ m) by unfold wi; simp [h0])
    go_enter Tryd.func48, Tryd.ntmps48
    go_wp2_with fail
    go_ret
    exact HW.out ▸ ⟨rfl, rfl⟩
  · have hd0 : decide (0 ≤ n) = false := decide_eq_false h0
    have HW := Lib.hid (show wi n m = false by unfold wi; simp [h0])
    go_enter Tryd.func48, Tryd.ntmps48
    go_wp2_with fail
    go_ret
    exact HW.out ▸ ⟨rfl, rfl⟩
end Dw
end Go.Proofs.YtambgmjiafcokaaDoor
