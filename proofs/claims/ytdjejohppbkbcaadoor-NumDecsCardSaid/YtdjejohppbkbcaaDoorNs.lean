/-
  THE WALKS of the question whether two rows are one, and whether a row is more than is looked at.
-/
import Derived.Test.YtdjejohppbkbcaaDoorNl
namespace Go.Proofs.YtdjejohppbkbcaaDoor
open Go.RowKit
namespace Nm
theorem str_yes {a b : ByteArray} (h : a = b) : (a.toList == b.toList) = true := by rw [h]; simp
theorem str_no {a b : ByteArray} (h : a ≠ b) : (a.toList == b.toList) = false := by
  rw [beq_eq_false_iff_ne]
  intro e
  rw [Go.ByteArray.toList_eq, Go.ByteArray.toList_eq] at e
  exact h (toL_inj e)
theorem eq_of_take {l l' : List ByteArray} (h : l.length = l'.length) (k : Nat) (hk : k = l.length) (e : l.take k = l'.take k) : l = l' := by
  rwa [List.take_of_length_le (by omega), List.take_of_length_le (by omega)] at e
/-- how many bytes and texts a row has -/
def bulk (l : List ByteArray) : Nat := (l.map fun s => s.size + 1).sum
theorem bulk_take (l : List ByteArray) (k : Nat) (h : k < l.length) : bulk (l.take (k + 1)) = bulk (l.take k) + ((nth l k).size + 1) := by
  unfold bulk
  rw [List.take_succ_eq_append_getElem h, List.map_append, List.sum_append, nth_eq h]
  simp
/-- the answer of 'long' -/
def LongIs (l : List ByteArray) (e : Ending) : Prop := e = .returned (.bool true) ∨ e = .returned (.bool false) ∧ bulk l ≤ 5000
end Nm
end Go.Proofs.YtdjejohppbkbcaaDoor
