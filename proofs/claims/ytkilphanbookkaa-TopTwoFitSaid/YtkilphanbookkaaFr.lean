/-
  THE WALK of the value through points as the document's answer has it.
-/
import Derived.Test.YtkilphanbookkaaFa
namespace Go.Proofs.Ytkilphanbookkaa
open Go.RowKit
/-- a fact for every index, kept from the walk -/
def NoPair (xs : List Nat) (len i n : Nat) : Prop := ∀ k, k < n → k < len → k ≠ i → Gf.nth xs k ≠ Gf.nth xs i
theorem quietA {P : Program} {f : FuncId} {args : Array Value} {w : World} {a n : Nat} {v : Value}
    (h : Calls P f args (w.drewN (a + n)) fun e w' => e = .returned v ∧ w.drewN (a + n) = w') :
    Calls P f args (w.drewN (a + n)) fun e w'' => e = .returned v ∧ ∃ m, w'' = w.drewN (a + m) :=
  h.mono fun _ _ ⟨he, hm⟩ => ⟨he, n, hm.symm⟩
def NoPairs (xs : List Nat) (len m : Nat) : Prop := ∀ i, i < m → NoPair xs len i len
end Go.Proofs.Ytkilphanbookkaa
