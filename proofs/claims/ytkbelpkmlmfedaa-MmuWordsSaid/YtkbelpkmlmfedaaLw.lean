/-
  What the laws of package exe are walked with.
-/
import Derived.Test.YtkbelpkmlmfedaaEa
import Derived.Test.YtkbelpkmlmfedaaEo
namespace Go.Proofs.Ytkbelpkmlmfedaa
set_option linter.unusedVariables false
set_option maxRecDepth 100000
set_option linter.unusedSimpArgs false
open Go.RowKit
namespace Xe
open _root_.Go.Proofs.Ytkbelpkmlmfedaa.Nm
theorem lay_small (x : Xv) (l : List Nat) : (layL x l).length ≤ 100 := by
  by_cases h : badN x.n x.d.size x.r x.e
  · rw [layL, if_pos h]; simp
  · rw [layL_len h]
    unfold badN at h
    unfold pn
    omega
end Xe
end Go.Proofs.Ytkbelpkmlmfedaa
