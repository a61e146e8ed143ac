/-
  An operation that yields the same in every world that is held comes up first: its side conditions asked of the kernel; orders that come to one end.
-/
import Derived.Test.YtaabefafafdndaaDoorLg
import Derived.OrdersHeld
namespace Go.Proofs.YtaabefafafdndaaDoor
open Go.RowKit
theorem tk {P : Program} {md : Region.Mode} {ops : Array Oper} {Q : Exit → Act → World → Prop} {S : World → Prop} {i : Nat} {oi : Oper} {v : Value} {fuel : Nat} {listed : Array Bool} {a : Act} {w : World} (hi : ops[i]? = some oi) (hS : S w) (hy : YieldsIf P ops S oi v a)
    (h : wpAnyH P md ops Q S fuel (listed.setIfInBounds i true) (a.put oi.dst v) w) (hs : Region.noSelect ops = true := by kernel_rfl) (hf : Region.free md ops listed i = true := by kernel_rfl) (hr : (Region.ready md ops listed).contains i = true := by kernel_rfl)
    (hQ : ∀ c a w, Q (.panic c) (a.put oi.dst v) w → Q (.panic c) a w := by exact fun _ _ _ h => h) : wpAnyH P md ops Q S (fuel + 1) listed a w := wpAnyH_take hi hs hf hr hQ hy hS h
/-- several orders, one end: frames that differ in numbers of blocks -/
theorem joinAt {P : Program} {md : Region.Mode} {ops : Array Oper} {Q : Exit → Act → World → Prop} {S : World → Prop} {fuel : Nat} {listed : Array Bool} {a : Act} {w : World} (fuel' : Nat) (listed' : Array Bool) (F : Nat → Nat → Act)
    (h2 : ∀ g g' W', S W' → wpAnyH P md ops Q S fuel' listed' (F g g') W') (h1 : (∀ g g' W', S W' → wpAnyH P md ops Q S fuel' listed' (F g g') W') → wpAnyH P md ops Q S fuel listed a w) : wpAnyH P md ops Q S fuel listed a w := h1 h2
theorem joinUse {P : Program} {md : Region.Mode} {ops : Array Oper} {Q : Exit → Act → World → Prop} {S : World → Prop} {fuel fuel' : Nat} {listed listed' : Array Bool} {a : Act} {w : World} (key : wpAnyH P md ops Q S fuel' listed' a w)
    (hf : fuel' = fuel := by kernel_rfl) (hl : listed' = listed := by kernel_rfl) : wpAnyH P md ops Q S fuel listed a w := by subst hf hl; exact key
end Go.Proofs.YtaabefafafdndaaDoor
