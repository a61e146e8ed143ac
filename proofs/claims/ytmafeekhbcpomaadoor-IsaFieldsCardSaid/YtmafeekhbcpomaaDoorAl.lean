/-
  The law's own examples.
-/
import Derived.Test.YtmafeekhbcpomaaDoorOp
namespace Go.Proofs.YtmafeekhbcpomaaDoor
open Go.RowKit
set_option linter.unusedVariables false
theorem icz : ic Is.zero = #[.int .u8 0, .int .u8 0, .int .u8 0, .int .u8 0, .int .i32 0] := rfl
theorem ic_mk (o a b c : Nat) (m : Int) : ic ⟨o, a, b, c, m⟩ = #[.int .u8 (o : Nat), .int .u8 (a : Nat), .int .u8 (b : Nat), .int .u8 (c : Nat), .int .i32 m] := rfl
def Al (w : World) : Prop := Calls Tryd.prog 10 #[] w fun e w' => e = .returned (.bool true) ∧ Below w.heap.size w w'
theorem e1 : Is.enc ⟨1, 1, 2, 3, 0⟩ = (71876608, 0) := by decide +kernel
theorem e2 : Is.enc ⟨31, 0, 0, 0, 5⟩ = (2080374789, 0) := by decide +kernel
theorem e3 : Is.dec 0 = (Is.zero, false) := by decide +kernel
theorem e4 : txt ⟨20, 1, 2, 0, 4⟩ = [108, 119, 32, 114, 49, 44, 32, 52, 40, 114, 50, 41] := by
  have h0 : (Is.enc ⟨20, 1, 2, 0, 4⟩).2 = 0 := by decide +kernel
  have i4 : Lib.itoa 4 = [52] := by unfold Lib.itoa; rw [if_neg (by omega)]; exact dig10 4 (by omega)
  unfold txt
  rw [if_neg (by rw [h0]; simp)]
  unfold body
  rw [if_neg (by decide), if_pos (by decide)]
  simp only [rt, i4, dig10 1 (by omega), dig10 2 (by omega)]
  decide +kernel
set_option maxRecDepth 100000 in
set_option maxHeartbeats 1000000 in
theorem alive_any (ht : ∀ (x : Is.Ins) (w : World), x.Ok → Tab w → Calls Tryd.prog 15 #[.agg (ic x)] w fun e w' => e = .returned (.string (st (txt x))) ∧ Below w.heap.size w w')
    (w : World) (hT : Tab w) : Al w := by
  unfold Al
  have h1 := fun wr => enc_any ⟨1, 1, 2, 3, 0⟩ (by refine ⟨?_, ?_, ?_, ?_, ?_, ?_⟩ <;> simp only <;> omega) wr
  have h2 := fun wr => enc_any ⟨31, 0, 0, 0, 5⟩ (by refine ⟨?_, ?_, ?_, ?_, ?_, ?_⟩ <;> simp only <;> omega) wr
  have h3 := fun wr => dec_any 0 (by omega) wr
  have h4 := fun wr => ht ⟨20, 1, 2, 0, 4⟩ wr (by refine ⟨?_, ?_, ?_, ?_, ?_, ?_⟩ <;> simp only <;> omega)
  rw [e1] at h1
  rw [e2] at h2
  rw [e3] at h3
  simp only [icz] at h3
  rw [e4] at h4
  have Ht := Lib.hid ht
  clear ht
  go_enter Tryd.func10, Tryd.ntmps10
  go_wp2_with fail
  refine (h1 _).mono ?_
  rintro e w1 ⟨rfl, b1⟩
  have hT1 := hT.below b1
  go_wp2_with fail
  refine (h2 _).mono ?_
  rintro e w2 ⟨rfl, b2⟩
  have hT2 := hT1.below b2
  replace b2 := b1.trans (b2.mono b1.size)
  clear b1
  go_wp2_with fail
  refine (h3 _).mono ?_
  rintro e w3 ⟨rfl, b3⟩
  have hT3 := hT2.below b3
  replace b3 := b2.trans (b3.mono b2.size)
  clear b2
  have hs : (st [108, 119, 32, 114, 49, 44, 32, 52, 40, 114, 50, 41]).toList = [108, 119, 32, 114, 49, 44, 32, 52, 40, 114, 50, 41] := by rw [Go.ByteArray.toList_eq]; rfl
  have hq : (⟨#[108, 119, 32, 114, 49, 44, 32, 52, 40, 114, 50, 41]⟩ : ByteArray).toList = [108, 119, 32, 114, 49, 44, 32, 52, 40, 114, 50, 41] := by rw [Go.ByteArray.toList_eq]
  go_wp2_with fail
  refine (h4 _ (hT3.below (grow _ _))).mono ?_
  rintro e w4 ⟨rfl, b4⟩
  replace b4 := b3.trans ((grow _ _).trans (b4.mono (grow _ _).size) |>.mono b3.size)
  clear b3
  go_wp2_with fail
  go_ret
  exact ⟨rfl, b4⟩
end Go.Proofs.YtmafeekhbcpomaaDoor
