/-
  THE WALKS of an instruction that may not be: no text.
-/
import Derived.Test.YtmafeekhbcpomaaDoorNm
namespace Go.Proofs.YtmafeekhbcpomaaDoor
open Go.RowKit
set_option linter.unusedVariables false
set_option linter.unusedSimpArgs false
set_option maxRecDepth 100000 in
theorem text_e (x : Is.Ins) (hx : x.Ok) (w : World) (he : (Is.enc x).2 ≠ 0) :
    Calls Tryd.prog 15 #[.agg (ic x)] w fun e w' => e = .returned (.string (st (txt x))) ∧ Below w.heap.size w w' := by
  have HT : Hid (txt x = []) := Lib.hid (by unfold txt; rw [if_pos he])
  have hen := enc_any x hx
  generalize Is.enc x = r at *
  obtain ⟨v, n⟩ := r
  simp only at he hen
  have e1 : ((n : Int) == 0) = false := by rw [beq_eq_false_iff_ne]; omega
  have e2 : ((n : Int) != 0) = true := by rw [bne, e1]; rfl
  obtain ⟨k0, k1, k2, k3, k4⟩ := at_new w x 23
  clear he
  go_enter Tryd.func15, Tryd.ntmps15
  go_wp2_with fail
  change Calls _ _ #[.agg (ic x)] (w.alloc (Obj.cells (ic x) 23)) _
  clear k0 k1 k2 k3 k4
  refine (hen _).mono ?_
  rintro e w1 ⟨rfl, hb⟩
  replace hb := (grow w _).trans (hb.mono (grow w _).size)
  go_wp2_with fail
  go_ret
  exact ⟨ret_str (by rw [HT.out]; rfl), hb⟩
set_option maxRecDepth 100000 in
theorem rtext_e (x : Is.Ins) (hx : x.Ok) (w : World) (he : (Is.enc x).2 ≠ 0) :
    Calls Tryd.prog 16 #[.agg (ic x)] w fun e w' => e = .returned (.string (st (txt x))) ∧ Below w.heap.size w w' := by
  have HT : Hid (txt x = []) := Lib.hid (by unfold txt; rw [if_pos he])
  have hen := renc_any x hx
  generalize Is.enc x = r at *
  obtain ⟨v, n⟩ := r
  simp only at he hen
  have e1 : ((n : Int) == 0) = false := by rw [beq_eq_false_iff_ne]; omega
  have e2 : ((n : Int) != 0) = true := by rw [bne, e1]; rfl
  obtain ⟨k0, k1, k2, k3, k4⟩ := at_new w x 23
  clear he
  go_enter Tryd.func16, Tryd.ntmps16
  go_wp2_with fail
  change Calls _ _ #[.agg (ic x)] (w.alloc (Obj.cells (ic x) 23)) _
  clear k0 k1 k2 k3 k4
  refine (hen _).mono ?_
  rintro e w1 ⟨rfl, hb⟩
  replace hb := (grow w _).trans (hb.mono (grow w _).size)
  go_wp2_with fail
  go_ret
  exact ⟨ret_str (by rw [HT.out]; rfl), hb⟩
end Go.Proofs.YtmafeekhbcpomaaDoor
