/-
  THE WALKS of the document's eight numbers and of its rows.
-/
import Derived.Test.YtoggibooinhomaaDoorSb
import Derived.Test.YtoggibooinhomaaDoorRm
namespace Go.Proofs.YtoggibooinhomaaDoor
set_option linter.unusedVariables false
set_option linter.unusedSimpArgs false
open Go.RowKit
/-- a row's text -/
def rowT (r : Nat) : ByteArray := bs ((Bl.sig.getD r []).map Bl.sign)
theorem rowT_size (r : Nat) (h : r < 10) : (rowT r).size = 16 := by
  match r, h with
  | 0, _ => rfl
  | 1, _ => rfl
  | 2, _ => rfl
  | 3, _ => rfl
  | 4, _ => rfl
  | 5, _ => rfl
  | 6, _ => rfl
  | 7, _ => rfl
  | 8, _ => rfl
  | 9, _ => rfl
theorem sign_by : ∀ r, r < 10 → ∀ i, i < 16 → (tn (rowT r)).getD i 0 = Bl.sign (Bl.sg r i) := by decide +kernel
theorem rowT_get (r i : Nat) (hr : r < 10) (hi : i < 16) (h : i < (rowT r).size) : ((rowT r)[i]).toNat = Bl.sign (Bl.sg r i) := by
  rw [tn_get]; exact sign_by r hr i hi
end Go.Proofs.YtoggibooinhomaaDoor
