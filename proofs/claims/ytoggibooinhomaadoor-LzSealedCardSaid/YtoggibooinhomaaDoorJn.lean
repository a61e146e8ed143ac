/-
  THE WALKS of parts, one behind the other, of the code and of the document's answer.
-/
import Derived.Test.YtoggibooinhomaaDoorSh
import Derived.Test.YtoggibooinhomaaDoorSb
import Derived.RegionTactic
import Derived.BigRegion
namespace Go.Proofs.YtoggibooinhomaaDoor
set_option linter.unusedVariables false
set_option linter.unusedSimpArgs false
open Go.RowKit
/-- the bytes of parts, one behind the other -/
def cat (xs : List ByteArray) : List Nat := xs.flatMap tn
theorem cat_by (xs : List ByteArray) : Bl.By (cat xs) := fun x hx => by
  obtain ⟨s, _, h⟩ := List.mem_flatMap.1 hx
  exact tn_by s x h
theorem cat_cons (x : ByteArray) (xs : List ByteArray) : cat (x :: xs) = tn x ++ cat xs := by simp [cat]
theorem cat_append (xs ys : List ByteArray) : cat (xs ++ ys) = cat xs ++ cat ys := by simp [cat]
theorem cat_next (xs : List ByteArray) (j : Nat) (h : j < xs.length) : cat (xs.take (j + 1)) = cat (xs.take j) ++ tn xs[j] := by
  rw [List.take_succ_eq_append_getElem h, cat_append]
  simp [cat]
theorem cat_take_le (xs : List ByteArray) (j : Nat) : (cat (xs.take j)).length ≤ (cat xs).length := by
  have : cat xs = cat (xs.take j) ++ cat (xs.drop j) := by rw [← cat_append, List.take_append_drop]
  rw [this, List.length_append]; omega
theorem of_tn (x : ByteArray) : (tn x).map UInt8.ofNat = x.data.toList := by
  unfold tn
  rw [List.map_map]
  have : (UInt8.ofNat ∘ UInt8.toNat) = id := by funext x; simp
  rw [this, List.map_id]
theorem cat_ofNat (xs : List ByteArray) : (cat xs).map UInt8.ofNat = (xs.map (·.data.toList)).flatten := by
  induction xs with
  | nil => rfl
  | cons x xs ih => rw [cat_cons, List.map_append, of_tn, ih]; rfl
/-- parts as a slice holds them -/
def Pts (w : World) (a : Option Addr) (xs : List ByteArray) : Prop := xs = [] ∨ ∃ g o, a = some ⟨g, o, none⟩ ∧ g < w.heap.size ∧ ∀ (j : Nat) x, xs[j]? = some x → w.cell? ⟨g, o + j, none⟩ = some (.string x)
theorem Pts.below {w w1 : World} {a : Option Addr} {xs : List ByteArray} (h : Pts w a xs) (hx : Below w.heap.size w w1) : Pts w1 a xs := by
  rcases h with rfl | ⟨g, o, rfl, hg, hc⟩
  · exact .inl rfl
  · exact .inr ⟨g, o, rfl, Nat.lt_of_lt_of_le hg hx.size, fun j x h => (hx.cell hg).trans (hc j x h)⟩
end Go.Proofs.YtoggibooinhomaaDoor
