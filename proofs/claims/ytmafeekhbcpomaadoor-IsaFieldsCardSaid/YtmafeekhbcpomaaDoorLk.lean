/-
  The walks of Text put together; the law's own examples.
-/
import Derived.Test.YtmafeekhbcpomaaDoorTc
import Derived.Test.YtmafeekhbcpomaaDoorTe
import Derived.Test.YtmafeekhbcpomaaDoorRt
import Derived.Test.YtmafeekhbcpomaaDoorIj
import Derived.Test.YtmafeekhbcpomaaDoorRd
import Derived.Test.YtmafeekhbcpomaaDoorCp
namespace Go.Proofs.YtmafeekhbcpomaaDoor
open Go.RowKit
set_option linter.unusedVariables false
theorem op_le {x : Is.Ins} (he : (Is.enc x).2 = 0) : 1 ≤ x.op ∧ x.op ≤ 31 := (Is.enc_ok (x := x) (w := (Is.enc x).1) (by rw [← he])).1
theorem text_any (x : Is.Ins) (hx : x.Ok) (w : World) (hT : Tab w) :
    Calls Tryd.prog 15 #[.agg (ic x)] w fun e w' => e = .returned (.string (st (txt x))) ∧ Below w.heap.size w w' := by
  by_cases he : (Is.enc x).2 = 0
  · obtain ⟨h1, h2⟩ := op_le he
    rcases (by omega : x.op ≤ 13 ∨ (14 ≤ x.op ∧ x.op ≤ 18) ∨ (19 ≤ x.op ∧ x.op ≤ 19) ∨ (20 ≤ x.op ∧ x.op ≤ 24) ∨ (25 ≤ x.op ∧ x.op ≤ 28) ∨ (29 ≤ x.op ∧ x.op ≤ 29) ∨ (30 ≤ x.op ∧ x.op ≤ 30) ∨ 31 ≤ x.op) with h | h | h | h | h | h | h | h
    · exact text_c x hx w hT he h1 h
    · exact text_b1 x hx w hT he h.1 h.2
    · exact text_a1 x hx w hT he h.1 h.2
    · exact text_m1 x hx w hT he h.1 h.2
    · exact text_b2 x hx w hT he h.1 h.2
    · exact text_a2 x hx w hT he h.1 h.2
    · exact text_m2 x hx w hT he h.1 h.2
    · exact text_s1 x hx w hT he h h2
  · exact text_e x hx w he
theorem rtext_any (x : Is.Ins) (hx : x.Ok) (w : World) :
    Calls Tryd.prog 16 #[.agg (ic x)] w fun e w' => e = .returned (.string (st (txt x))) ∧ Below w.heap.size w w' := by
  by_cases he : (Is.enc x).2 = 0
  · obtain ⟨h1, h2⟩ := op_le he
    rcases (by omega : (1 ≤ x.op ∧ x.op ≤ 13) ∨ ((14 ≤ x.op ∧ x.op ≤ 18) ∨ (25 ≤ x.op ∧ x.op ≤ 28)) ∨ (x.op = 19 ∨ x.op = 29) ∨ ((20 ≤ x.op ∧ x.op ≤ 24) ∨ x.op = 30) ∨ x.op = 31) with h | h | h | h | h
    · exact rtext_1 x hx w he h
    · exact rtext_2 x hx w he h
    · exact rtext_3 x hx w he h
    · exact rtext_4 x hx w he h
    · exact rtext_5 x hx w he h
  · exact rtext_e x hx w he
theorem al_any (w : World) (hT : Tab w) : Al w := alive_any (fun x w hx hT => text_any x hx w hT) w hT
end Go.Proofs.YtmafeekhbcpomaaDoor
