/-
  A number's bounds, out of its form.
-/
import Derived.Test.YtdjejohppbkbcaaDoorDr
import Derived.Test.YtdjejohppbkbcaaDoorNa
namespace Go.Proofs.YtdjejohppbkbcaaDoor
theorem wf_i64' {n : Int} (h : (Lit.int .i64 n).wf = true) : Dm.In n := by
  simp [Lit.wf, IntKind.min, IntKind.max, IntKind.signed, IntKind.bits] at h
  unfold Dm.In
  omega
end Go.Proofs.YtdjejohppbkbcaaDoor
