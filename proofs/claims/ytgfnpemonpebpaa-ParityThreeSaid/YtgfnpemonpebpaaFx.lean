/-
  THE WALK of the chapter's examples: they come out.
-/
import Derived.Test.YtgfnpemonpebpaaFr
namespace Go.Proofs.Ytgfnpemonpebpaa
open Go.RowKit
/-- two bytes in a block of their own -/
theorem bs_two {w : World} {g : Nat} {t : TypeId} {x y : Nat} (h : Own w g t #[.int .u8 (x : Int), .int .u8 (y : Int)]) (hx : x < 256) (hy : y < 256) : Bs w (some ⟨g, 0, none⟩) 2 [x, y] := by
  refine ⟨rfl, ?_, fun _ => ⟨g, 0, rfl, fun i hi => ?_⟩⟩
  · intro z hz
    simp at hz
    omega
  · rw [Nat.zero_add, h.cell]
    match i, hi with
    | 0, _ => rfl
    | 1, _ => rfl
theorem Own.alloc {w : World} {g : Nat} {t : TypeId} {cs : Array Value} (h : Own w g t cs) (o : Obj) : Own (w.alloc o) g t cs := (Below.heap_alloc w o g h.lt).trans h
end Go.Proofs.Ytgfnpemonpebpaa
