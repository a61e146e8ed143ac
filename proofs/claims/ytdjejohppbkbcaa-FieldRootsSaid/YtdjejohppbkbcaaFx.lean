/-
  THE WALK of the chapter's examples: they come out.
-/
import Derived.Test.YtdjejohppbkbcaaFr
namespace Go.Proofs.Ytdjejohppbkbcaa
open Go.RowKit
/-- two bytes in a block of their own -/
theorem bs_two {w : World} {g : Nat} {t : TypeId} {x y : Nat} (h : Own w g t #[.int .u8 (x : Int), .int .u8 (y : Int)]) (hx : x < 256) (hy : y < 256) : Bs w (some ⟨g, 0, none⟩) 2 [x, y] := by
  refine ⟨rfl, ?_, fun _ => ⟨g, 0, rfl, fun i hi => ?_⟩⟩
  · intro z hz
    simp at hz
    omega
  · rw [Nat.zero_add, h.cell]
    match i, hi with
    | 0, _ => rfl
    | 1, _ => rfl
theorem Own.alloc {w : World} {g : Nat} {t : TypeId} {cs : Array Value} (h : Own w g t cs) (o : Obj) : Own (w.alloc o) g t cs := (Below.heap_alloc w o g h.lt).trans h
theorem alive_at : Gf.atk [1, 2] [5, 5] 9 2 = 5 := by decide +kernel
theorem alive_dup : Gf.dup [1, 2] = false := by decide +kernel
theorem alive_mul : Gf.mul 2 128 = 29 := by decide +kernel
theorem alive_inv : Gf.inv 2 = 142 := by decide +kernel
theorem alive_ev : Gf.ev [1, 2] 3 = 7 := by decide +kernel
theorem alive_is : ∀ e, AtIs [1, 2] [5, 5] 9 e → e = .returned (.tuple #[.int .u8 5, .bool true]) := by
  intro e h
  unfold AtIs at h
  rw [if_pos ⟨rfl, alive_dup⟩] at h
  rw [h, show ([1, 2] : List Nat).length = 2 from rfl, alive_at]; rfl
set_option maxHeartbeats 1000000 in
theorem alive_any (w : World) : Calls Try.prog 25 #[] w fun e w' => e = .returned (.bool true) ∧ Below w.heap.size w w' := by
  have o1 := ((Own.new w 5 #[.int .u8 ((1 : Nat) : Int), .int .u8 ((2 : Nat) : Int)]).alloc (Obj.cells #[Value.int IntKind.u8 5, Value.int IntKind.u8 5] 5))
  have o2 := Own.new (w.alloc (.cells #[.int .u8 1, .int .u8 2] 5)) 5 #[.int .u8 ((5 : Nat) : Int), .int .u8 ((5 : Nat) : Int)]
  have e2 : (w.alloc (Obj.cells #[.int .u8 1, .int .u8 2] 5)).heap.size = w.heap.size + 1 := by simp
  rw [e2] at o2
  have s1 := bs_two o1 (by omega) (by omega)
  have s2 := bs_two o2 (by omega) (by omega)
  have H1 := Lib.hid s1
  have H2 := Lib.hid s2
  have hw0 : Below w.heap.size w ((w.alloc (Obj.cells #[Value.int IntKind.u8 1, Value.int IntKind.u8 2] 5)).alloc (Obj.cells #[Value.int IntKind.u8 5, Value.int IntKind.u8 5] 5)) :=
    ((Below.refl _ _).alloc (Nat.le_refl _) _).alloc (by simp) _
  have HW := Lib.hid hw0
  clear o1 o2 e2 s1 s2 hw0
  have m1 := mul_any 2 128
  have m2 := inv_any 2
  rw [alive_mul] at m1
  rw [alive_inv] at m2
  have M1 := Lib.hid m1
  have M2 := Lib.hid m2
  clear m1 m2
  go_enter Try.func25, Try.ntmps25
  go_wp2_with fail
  refine (at_any _ _ 2 2 2 2 [1, 2] [5, 5] 9 _ (by omega) (by omega) (by omega) H1.out H2.out).mono ?_
  rintro e w1 ⟨he, hb⟩
  rw [alive_is e he]
  have hz : w.heap.size + 1 < w1.heap.size := by have := hb.size; simp at this; omega
  have hw1 : Below w.heap.size w w1 := HW.out.trans (hb.mono (by simp; omega))
  clear hb he
  have HW1 := Lib.hid hw1
  clear hw1
  go_wp2_with fail
  refine (M1.out _ (by omega) (by omega)).mono ?_
  rintro e w2 ⟨rfl, rfl⟩
  go_wp2_with fail
  refine (M2.out _ (by omega)).mono ?_
  rintro e w2 ⟨rfl, rfl⟩
  go_wp2_with fail
  have o3 := Own.new w1 5 #[.int .u8 ((1 : Nat) : Int), .int .u8 ((2 : Nat) : Int)]
  refine (eval_any _ 2 2 [1, 2] 3 _ (by omega) (by omega) (bs_two o3 (by omega) (by omega))).mono ?_
  rw [alive_ev]
  rintro e w2 ⟨rfl, hd⟩
  clear o3
  go_wp2_with fail
  go_ret
  exact ⟨rfl, Below.dr (HW1.out.alloc (by omega) _) hd⟩
end Go.Proofs.Ytdjejohppbkbcaa
