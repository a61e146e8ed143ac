/-
  128 noughts by strings.Repeat.
-/
import Derived.Test.YtambgmjiafcokaaDoorGk
namespace Go.Proofs.YtambgmjiafcokaaDoor
set_option linter.unusedVariables false
open Go.RowKit
namespace Dw
theorem rep_z (k : Nat) : (⟨(Lib.repeatL [0] k).toArray⟩ : ByteArray) = zs k := by
  rw [rep_zero]; unfold zs; rw [List.toArray_replicate]
theorem rep_z128 (wr : World) : Calls Tryd.prog 36 #[.string ⟨#[0]⟩, .int .i64 128] wr fun e w' => e = .returned (.string (zs 128)) ∧ Below wr.heap.size wr w' := by
  have := Tryd.strings_Repeat ⟨#[0]⟩ 128 wr (by omega) (by decide)
  rw [show (⟨#[0]⟩ : ByteArray).data.toList = [0] from rfl, rep_z] at this
  exact this
end Dw
end Go.Proofs.YtambgmjiafcokaaDoor
