/-
  A text is not the empty one.
-/
import Derived.Test.YtgjpopndjnbkaaaAw
namespace Go.Proofs.Ytgjpopndjnbkaaa
theorem not_empty {T : ByteArray} (h : T.size = 16) : T.toList.isEmpty = false := by
  rw [ByteArray.toList_eq, List.isEmpty_eq_false_iff]
  intro h2
  have h4 : T.data.toList.length = 16 := by simpa using h
  rw [h2] at h4
  exact absurd h4 (by decide)
end Go.Proofs.Ytgjpopndjnbkaaa
