/-
  A number's bounds, out of its form; what is laid.
-/
import Derived.Test.YtambgmjiafcokaaDoorRows
import Derived.Test.YtambgmjiafcokaaDoorIz
import Derived.LaidLaws
import Derived.OpenShut
namespace Go.Proofs.YtambgmjiafcokaaDoor
def lay2 : List (String × DataW Unit) := [("unicode/utf8.acceptRanges", Rows.laid_unicode_utf8_acceptRanges), ("unicode/utf8.first", Rows.laid_unicode_utf8_first)]
theorem of_laid {W : World} (_h : laidMetH Tryd.prog lay2 W) : True := trivial
theorem wf_i64' {n : Int} (h : (Lit.int .i64 n).wf = true) : -9223372036854775808 ≤ n ∧ n ≤ 9223372036854775807 := by
  simp [Lit.wf, IntKind.min, IntKind.max, IntKind.signed, IntKind.bits] at h
  omega
theorem laidOut : laidOutB Tryd.prog = true := by kernel_rfl
end Go.Proofs.YtambgmjiafcokaaDoor
