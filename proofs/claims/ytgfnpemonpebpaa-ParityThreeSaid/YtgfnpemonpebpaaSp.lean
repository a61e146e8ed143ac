/-
  THE WALKS of the code's shares: one at a place, and all of them.
-/
import Derived.Test.YtgfnpemonpebpaaAr
import Derived.Test.YtgfnpemonpebpaaSm
import Derived.WalkKit
import Derived.Lib.Hide
import Derived.Below
import Derived.RegionTactic
import Derived.BigRegion
import Derived.BigQuiet
import Derived.Deep.RegionWith
import Derived.Deep.RegionHeld3
import Derived.Deep.LoopGhost
namespace Go.Proofs.Ytgfnpemonpebpaa
open Go.RowKit
set_option linter.unusedVariables false
set_option linter.unusedSimpArgs false
/-- a row that is filled up to a place -/
def fil (n : Nat) (f : Nat → Nat) (k : Nat) : List Nat := (List.range n).map fun i => if i < k then f i else 0
theorem fil_length (n : Nat) (f : Nat → Nat) (k : Nat) : (fil n f k).length = n := by simp [fil]
theorem fil_zero (n : Nat) (f : Nat → Nat) : fil n f 0 = List.replicate n 0 := by
  unfold fil
  apply List.ext_getElem?
  intro i
  simp [List.getElem?_replicate]
  by_cases hi : i < n <;> simp [hi]
theorem fil_all (n : Nat) (f : Nat → Nat) : fil n f n = (List.range n).map f := List.map_congr_left fun i hi => if_pos (by simpa using hi)
theorem fil_set (n : Nat) (f : Nat → Nat) (k : Nat) (hk : k < n) : (fil n f k).set k (f k) = fil n f (k + 1) := by
  apply List.ext_getElem?
  intro i
  rw [List.getElem?_set]
  by_cases hi : i < n
  · by_cases hik : k = i
    · subst hik; simp [fil, hi]
    · rw [if_neg hik]
      simp only [fil, List.getElem?_map, List.getElem?_range hi, Option.map_some, Option.some.injEq]
      by_cases h : i < k
      · rw [if_pos h, if_pos (by omega)]
      · rw [if_neg h, if_neg (by omega)]
  · rw [if_neg (by omega), List.getElem?_eq_none (by rw [fil_length]; omega), List.getElem?_eq_none (by rw [fil_length]; omega)]
/-- the bytes of a text as numbers -/
def toN (s : ByteArray) : List Nat := s.data.toList.map (·.toNat)
theorem toN_length (s : ByteArray) : (toN s).length = s.size := by unfold toN; rw [List.length_map, Array.length_toList]; rfl
theorem toN_bytes (s : ByteArray) : Gf.Bytes (toN s) := fun x hx => by
  obtain ⟨c, _, rfl⟩ := List.mem_map.1 hx
  exact c.toNat_lt
theorem toN_nth (s : ByteArray) (i : Nat) (h : i < s.size) : Gf.nth (toN s) i = (s[i]).toNat := by
  have h' : i < s.data.size := h
  rw [Gf.nth_eq]
  unfold toN
  rw [List.getElem?_map, Array.getElem?_toList, Array.getElem?_eq_getElem h']
  rfl
theorem bs_three {w : World} {g : Nat} {t : TypeId} {x y z : Nat} (h : Own w g t #[.int .u8 (x : Int), .int .u8 (y : Int), .int .u8 (z : Int)]) (hx : x < 256) (hy : y < 256) (hz : z < 256) : Bs w (some ⟨g, 0, none⟩) 3 [x, y, z] := by
  refine ⟨rfl, Sx.three_bytes hx hy hz, fun _ => ⟨g, 0, rfl, fun i hi => ?_⟩⟩
  rw [Nat.zero_add, h.cell]
  match i, hi with
  | 0, _ => rfl
  | 1, _ => rfl
  | 2, _ => rfl
theorem fil_share (X : Nat) (F : Nat → Nat) (k : Nat) (hk : k < 32) : (X :: fil 32 F k).set (1 + k) (F k) = X :: fil 32 F (k + 1) := by
  rw [Nat.add_comm 1 k, List.set_cons_succ, fil_set _ _ _ hk]
theorem below_dr {B : Nat} {a w w' : World} (h : Below B a w) (k : Dr w w') : Below B a w' := by
  obtain ⟨n, rfl⟩ := k
  exact ⟨h.os, h.tape, h.output, h.size, h.block⟩
end Go.Proofs.Ytgfnpemonpebpaa
