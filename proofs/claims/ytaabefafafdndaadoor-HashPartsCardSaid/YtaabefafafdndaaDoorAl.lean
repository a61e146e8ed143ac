/-
  THE WALK of the document's examples.
-/
import Derived.Test.YtaabefafafdndaaDoorSm
import Derived.Test.YtaabefafafdndaaDoorHx
namespace Go.Proofs.YtaabefafafdndaaDoor
open Go.RowKit
theorem abc_text : bs (Bl.hex (Bl.sum [97, 98, 99])) = ⟨#[53, 48, 56, 99, 53, 101, 56, 99, 51, 50, 55, 99, 49, 52, 101, 50, 101, 49, 97, 55, 50, 98, 97, 51, 52, 101, 101, 98, 52, 53, 50, 102, 51, 55, 52, 53, 56, 98, 50, 48, 57, 101, 100, 54, 51, 97, 50, 57, 52, 100, 57, 57, 57, 98, 52, 99, 56, 54, 54, 55, 53, 57, 56, 50]⟩ := by rw [Bl.abc]; decide
theorem none_text : bs (Bl.hex (Bl.sum [])) = ⟨#[54, 57, 50, 49, 55, 97, 51, 48, 55, 57, 57, 48, 56, 48, 57, 52, 101, 49, 49, 49, 50, 49, 100, 48, 52, 50, 51, 53, 52, 97, 55, 99, 49, 102, 53, 53, 98, 54, 52, 56, 50, 99, 97, 49, 97, 53, 49, 101, 49, 98, 50, 53, 48, 100, 102, 100, 49, 101, 100, 48, 101, 101, 102, 57]⟩ := by rw [Bl.none]; decide
set_option maxRecDepth 100000 in
set_option maxHeartbeats 1000000 in
theorem alive_any (w : World) (hT : Tab w) : Calls Tryd.prog 9 #[] w fun e w' => e = .returned (.bool true) ∧ Below w.heap.size w w' := by
  obtain ⟨W0, hW0⟩ : ∃ W0, W0 = w.alloc (Obj.cells #[.string ⟨#[97]⟩, .string ⟨#[98, 99]⟩] 9) := ⟨_, rfl⟩
  have hb0 : Below w.heap.size w W0 := by rw [hW0]; exact (Below.refl _ w).alloc (Nat.le_refl _) _
  have o2 : Own W0 w.heap.size 9 #[.string ⟨#[97]⟩, .string ⟨#[98, 99]⟩] := by rw [hW0]; exact Own.new _ _ _
  have hp : Pts W0 (some ⟨w.heap.size, 0, none⟩) [⟨#[97]⟩, ⟨#[98, 99]⟩] := .inr ⟨_, 0, rfl, o2.lt, fun j x h => by
    rw [Nat.zero_add, o2.cellv]
    match j, h with
    | 0, h => exact congrArg some (congrArg Value.string (Option.some.inj h))
    | 1, h => exact congrArg some (congrArg Value.string (Option.some.inj h))⟩
  have hs := sum_any _ _ 2 W0 (hT.below hb0) hp (by decide) (by decide) (by decide)
  have ec : cat [⟨#[97]⟩, ⟨#[98, 99]⟩] = [97, 98, 99] := by decide
  rw [ec] at hs
  have d1 := abc_text
  have d2 := none_text
  have D1 := Lib.hid d1
  have D2 := Lib.hid d2
  clear d1 d2
  have b1 := Bl.digest_by Bl.h0 [97, 98, 99]
  have b2 := Bl.digest_by Bl.h0 []
  change Bl.By (Bl.sum [97, 98, 99]) at b1
  change Bl.By (Bl.sum []) at b2
  have l1 : (Bl.sum [97, 98, 99]).length = 32 := Bl.digest_length _ _
  have l2 : (Bl.sum []).length = 32 := Bl.digest_length _ _
  have hn := fun w1 (h : Below w.heap.size w w1) => sum_any none [] 0 w1 (hT.below h) (.inl rfl) (by decide) (by decide) (by decide)
  rw [show cat [] = [] from rfl] at hn
  generalize Bl.sum [97, 98, 99] = A at *
  generalize Bl.sum [] = N at *
  have HW0 := Lib.hid hW0
  clear hW0
  go_enter Tryd.func9, Tryd.ntmps9
  go_wp2_with fail
  change Calls _ _ _ (w.alloc (Obj.cells #[.string ⟨#[97]⟩, .string ⟨#[98, 99]⟩] 9)) _
  rw [← HW0.out]
  refine hs.mono ?_
  rintro e w1 ⟨rfl, hx1⟩
  have hb1 := hb0.trans (hx1.mono hb0.size)
  go_wp2_with fail
  refine (hex_any A b1 l1 _).mono ?_
  rintro e w2 ⟨rfl, hx2⟩
  have hb2 := hb1.trans (hx2.mono hb1.size)
  rw [D1.out]
  go_wp2_with fail
  refine (hn _ hb2).mono ?_
  rintro e w3 ⟨rfl, hx3⟩
  have hb3 := hb2.trans (hx3.mono hb2.size)
  go_wp2_with fail
  refine (hex_any N b2 l2 _).mono ?_
  rintro e w4 ⟨rfl, hx4⟩
  have hb4 := hb3.trans (hx4.mono hb3.size)
  rw [D2.out]
  go_wp2_with fail
  go_ret
  exact ⟨rfl, hb4⟩
end Go.Proofs.YtaabefafafdndaaDoor
