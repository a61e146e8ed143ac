/-
  THE WALKS of a digest of parts, without a key, of the code and of the document's answer.
-/
import Derived.Test.YtaoaebdjinlcnaaDoorJn
import Derived.Test.YtaoaebdjinlcnaaDoorDd
import Derived.Deep.MidRow
set_option linter.unusedVariables false
set_option linter.unusedSimpArgs false
set_option maxRecDepth 100000
namespace Go.Proofs.YtaoaebdjinlcnaaDoor
open Go.RowKit
/-- the blocks of a call that makes a digest -/
structure Hr (w wr : World) (B r h : Nat) (H : List Nat) : Prop where
  oh : Own wr h 88 (vs .u32 H)
  od : Own wr r 64 (vs .u8 (List.replicate 32 0))
  hB : B ≤ h
  rB : B ≤ r
  ne : h ≠ r
  b : Below B w wr
theorem Hr.below {w wr w1 : World} {B r h : Nat} {H : List Nat} (o : Hr w wr B r h H) (hx : Below wr.heap.size wr w1) : Hr w w1 B r h H :=
  have := o.oh.lt
  have := o.od.lt
  ⟨Below.own hx o.oh (by omega), Below.own hx o.od (by omega), o.hB, o.rB, o.ne, o.b.trans (hx.mono (have := o.hB; by omega))⟩
theorem Hr.drew {w wr : World} {B r h : Nat} {H : List Nat} (o : Hr w wr B r h H) : Hr w wr.drew B r h H := ⟨o.oh, o.od, o.hB, o.rB, o.ne, o.b.drew⟩
theorem Hr.set {w wr : World} {B r h : Nat} {H : List Nat} (o : Hr w wr B r h H) (i x : Nat) : Hr w (wr.setCell ⟨h, i, none⟩ (.int .u32 (x : Int))) B r h (H.set i x) :=
  ⟨o.oh.set i x, o.od.other _ _ o.ne.symm, o.hB, o.rB, o.ne, o.b.setCell o.hB _⟩
theorem Hr.done {w wr : World} {B r h : Nat} {H : List Nat} (o : Hr w wr B r h H) (D : List Nat) : Own (wr.setRow r (vs .u8 D)) r 64 (vs .u8 D) ∧ Below B w (wr.setRow r (vs .u8 D)) := ⟨o.od.row _, below_row o.b o.rB _⟩
theorem Tab.range {w : World} (h : Tab w) : w.rangeAt 0 0 (vs .u32 Bl.iv).toList := fun j v hv => by
  have hj : j < 8 := by
    by_cases hj : j < 8
    · exact hj
    · rw [List.getElem?_eq_none (by simp [vs, Bl.iv]; omega)] at hv; exact absurd hv (by simp)
  rw [Array.getElem?_toList, vs_get .u32 (by rw [iv_len]; exact hj)] at hv
  rw [Nat.zero_add, h.1 j hj]; exact hv
end Go.Proofs.YtaoaebdjinlcnaaDoor
