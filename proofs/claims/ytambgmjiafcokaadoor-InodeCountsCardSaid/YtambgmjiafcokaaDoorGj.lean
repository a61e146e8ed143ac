/-
  THE WALKS of the question where things are on a volume, of any row, of the code and of the document's answer.
-/
import Derived.Test.YtambgmjiafcokaaDoorGi
namespace Go.Proofs.YtambgmjiafcokaaDoor
set_option linter.unusedVariables false
set_option maxRecDepth 100000
set_option linter.unusedSimpArgs false
open Go.RowKit
namespace Dw
open _root_.Go.Proofs.YtambgmjiafcokaaDoor.Nm
theorem of_any (A : Option Addr) (m c : Nat) (l : List ByteArray) (w : World) (hl : Tz w A m c l) (hL : Lit l m) :
    Calls Tryd.prog 28 #[.slice A m c] w fun e w' => OfIs l e ∧ Below w.heap.size w w' := by
  have hlen : l.length = m := hl.t.1
  subst hlen
  have hb := grow w (Obj.cells gz 58)
  have r0 := Nm.Own.new w 58 gz
  have hct := contains_any A l.length c l _ (hl.below hb) hL
  have hmm := hl.m
  by_cases hm : l.length = 0
  · have HN := Lib.hid (show ∀ b n, ¬ Vol l b n from fun b n h => by have := h.lt; have := h.len; omega)
    clear hct
    go_enter Tryd.func28, Tryd.ntmps28
    go_wp2_with (refine sto24 (cs := gz) rfl rfl rfl rfl r0 gz_one gz_one ?_)
    intro w7 r7 s7
    go_wp2_with fail
    exact res24 rfl rfl rfl r7 rfl rfl ⟨.inr ⟨HN.out, rfl⟩, s7.below hb (Nat.le_refl _)⟩
  by_cases hB : Blk l l.length
  · exact of_blk A c l w hl hB (by omega)
  · have HN := Lib.hid (show ∀ b n, ¬ Vol l b n from fun b n h => by have := h.blk; rw [← h.len] at this; exact hB this)
    have HB := Lib.hid hB
    have m0 : ¬ (l.length : Int) = 0 := by omega
    have m1 : ((l.length : Int) == 0) = false := by rw [beq_eq_false_iff_ne]; exact m0
    clear hB
    unfold fv at hct
    go_enter Tryd.func28, Tryd.ntmps28
    go_wp2_with fail
    refine hct.mono ?_
    rintro e w' ⟨⟨r, rfl, hr⟩, rfl⟩
    obtain rfl : r = true := by
      cases r
      · exact absurd (hr.1 rfl) HB.out
      · rfl
    clear hr
    go_wp2_with (refine sto24 (cs := gz) rfl rfl rfl rfl r0 gz_one gz_one ?_)
    intro w7 r7 s7
    go_wp2_with fail
    exact res24 rfl rfl rfl r7 rfl rfl ⟨.inr ⟨HN.out, rfl⟩, s7.below hb (Nat.le_refl _)⟩
end Dw
end Go.Proofs.YtambgmjiafcokaaDoor
