/-
  THE WALK of the chapter's examples: they come out.
-/
import Derived.Test.YtkilphanbookkaaFr
namespace Go.Proofs.Ytkilphanbookkaa
open Go.RowKit
/-- two bytes in a block of their own -/
theorem bs_two {w : World} {g : Nat} {t : TypeId} {x y : Nat} (h : Own w g t #[.int .u8 (x : Int), .int .u8 (y : Int)]) (hx : x < 256) (hy : y < 256) : Bs w (some ⟨g, 0, none⟩) 2 [x, y] := by
  refine ⟨rfl, ?_, fun _ => ⟨g, 0, rfl, fun i hi => ?_⟩⟩
  · intro z hz
    simp at hz
    omega
  · rw [Nat.zero_add, h.cell]
    match i, hi with
    | 0, _ => rfl
    | 1, _ => rfl
theorem Own.alloc {w : World} {g : Nat} {t : TypeId} {cs : Array Value} (h : Own w g t cs) (o : Obj) : Own (w.alloc o) g t cs := (Below.heap_alloc w o g h.lt).trans h
theorem alive_at : Gf.atk [1, 2] [5, 5] 9 2 = 5 := by decide +kernel
theorem alive_dup : Gf.dup [1, 2] = false := by decide +kernel
theorem alive_mul : Gf.mul 2 128 = 29 := by decide +kernel
theorem alive_inv : Gf.inv 2 = 142 := by decide +kernel
theorem alive_ev : Gf.ev [1, 2] 3 = 7 := by decide +kernel
theorem alive_is : ∀ e, AtIs [1, 2] [5, 5] 9 e → e = .returned (.tuple #[.int .u8 5, .bool true]) := by
  intro e h
  unfold AtIs at h
  rw [if_pos ⟨rfl, alive_dup⟩] at h
  rw [h, show ([1, 2] : List Nat).length = 2 from rfl, alive_at]; rfl
end Go.Proofs.Ytkilphanbookkaa
