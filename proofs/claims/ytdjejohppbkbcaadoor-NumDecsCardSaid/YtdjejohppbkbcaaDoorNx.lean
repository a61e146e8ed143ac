/-
  THE WALK of the reading of a row, as the document's answer has it.
-/
import Derived.Test.YtdjejohppbkbcaaDoorNs
namespace Go.Proofs.YtdjejohppbkbcaaDoor
open Go.RowKit
namespace Nm
def TrRel (s : ByteArray) (at0 : Nat) (acc : List ByteArray) : Prop := ∃ f, s.size - at0 < f ∧ Nu.texts (toL s) = Nu.txA f (acc.map toL) ((toL s).drop at0)
theorem drop_at (s : ByteArray) (k : Nat) (h : k < s.size) : (toL s).drop k = s[k] :: (toL s).drop (k + 1) := drop_bytes s k h
end Nm
end Go.Proofs.YtdjejohppbkbcaaDoor
