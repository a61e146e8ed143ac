/-
  What the reading of an argument of the kind []byte says, in the words of the walks: a list of bytes.
-/
import Derived.Test.YtdjejohppbkbcaaFx
import Derived.OpenShut
namespace Go.Proofs.Ytdjejohppbkbcaa
open Go.RowKit
/-- a slice of integers that came in: nil, or a row of cells -/
def IsRow (k : IntKind) (w : World) (a : Option Addr) (len cap : Nat) (zs : List Int) : Prop :=
  (a = none ∧ len = 0 ∧ cap = 0 ∧ zs = []) ∨
  ∃ x, a = some x ∧ len ≤ cap ∧ cap ≤ maxLen ∧ zs.length = cap ∧ (∀ i, i < zs.length → w.cell? (x.add i) = some (.int k (zs.getD i 0))) ∧ ∀ n ∈ zs, (Lit.int k n).wf = true
theorem bs_of_row {w : World} {a : Option Addr} {len cap : Nat} {zs : List Int} (h : IsRow .u8 w a len cap zs) : ∃ l, Bs w a len l ∧ len ≤ 9223372036854775807 := by
  rcases h with ⟨rfl, rfl, rfl, rfl⟩ | ⟨x, rfl, hl, hm, hz, hc, hw⟩
  · exact ⟨[], ⟨rfl, (fun y hy => nomatch hy), (fun h => absurd h (by omega))⟩, by omega⟩
  · refine ⟨(zs.take len).map Int.toNat, ⟨by simp; omega, ?_, ?_⟩, by unfold maxLen at hm; omega⟩
    · intro y hy
      obtain ⟨z, hz1, rfl⟩ := List.mem_map.1 hy
      have := bounds_u8 (hw z (List.mem_of_mem_take hz1))
      omega
    · intro h0
      obtain ⟨b, off, spot⟩ := x
      have hc0 := hc 0 (by omega)
      have hspot : spot = none := by simpa [Addr.add] using World.cell?_spot hc0
      subst hspot
      refine ⟨b, off, rfl, fun i hi => ?_⟩
      have e := hc i (by omega)
      have ea : (⟨b, off, none⟩ : Addr).add i = ⟨b, off + i, none⟩ := by
        unfold Addr.add
        split
        · rename_i h; subst h; rfl
        · rfl
      rw [ea] at e
      rw [e]
      have hiz : i < zs.length := by omega
      have e1 : zs.getD i 0 = zs[i] := by simp [List.getD_eq_getElem?_getD, hiz]
      have e2 : Gf.nth ((zs.take len).map Int.toNat) i = zs[i].toNat := by
        rw [Gf.nth_eq]; simp [hiz, hi]
      have := bounds_u8 (hw zs[i] (List.getElem_mem _))
      rw [e1, e2, show ((zs[i].toNat : Nat) : Int) = zs[i] from by omega]
end Go.Proofs.Ytdjejohppbkbcaa
