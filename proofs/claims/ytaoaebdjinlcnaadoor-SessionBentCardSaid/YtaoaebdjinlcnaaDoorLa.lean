/-
  What the listed package variables hold when the call begins, as the walks read it; how arguments are opened.
-/
import Derived.Test.YtaoaebdjinlcnaaDoorTie
import Derived.Test.YtaoaebdjinlcnaaDoorKr
import Derived.ProofKit
import Derived.LaidMore
import Derived.OpenShut
import Derived.Stop.Joined
set_option linter.unusedVariables false
set_option linter.unusedSimpArgs false
set_option maxRecDepth 100000
namespace Go.Proofs.YtaoaebdjinlcnaaDoor
open Go.ChangeShapes Go.WideShapes Go.ChangeAt Go.RowKit
theorem gEight : Tryd.prog.globalNamed "hibernacle/hash.eight" = some 0 := by kernel_rfl
theorem gRows : Tryd.prog.globalNamed "hibernacle/hash.rows" = some 2 := by kernel_rfl
theorem tEight : (Tryd.prog.globals[0]?).map (·.type) = some 88 := by kernel_rfl
theorem tRows : (Tryd.prog.globals[2]?).map (·.type) = some 124 := by kernel_rfl
/-- numbers as a datum -/
def lits {H : Type} (k : IntKind) (L : List Nat) : DataW H :=   .agg (L.map fun (x : Nat) => .lit (.int k (x : Int)))
theorem ints_trod {H : Type} {enc : TypeId × Value → H} {P : Program} {w : World} {b : Nat} {sp : Nat → Bool} {held : Bool} {fuel : Nat} {t e : TypeId} {n : Nat} {k : IntKind} {cs : List Value} {L : List Nat} {q : List MemPlace}
    (ht : P.underlying t = some (.array n e)) (he : P.underlying e = some (.int k)) (c1 : P.cellsOf e = 1) (h : DataW.trod enc P w b sp held fuel t cs = some (lits k L, q)) (i : Nat) (hi : i < n) : cs[i]? = some (.int k (Bl.nth L i : Nat)) := by
  obtain ⟨xs, m, rfl, hx, _, hn, hel⟩ := DataW.trod_array ht h
  have h1 := hel i hi
  have hxi : i < xs.length := by omega
  rw [List.getElem?_eq_getElem hxi] at h1
  obtain ⟨z, e1, e2, _⟩ := DataW.trod_int he h1
  simp only [Prod.mk.injEq, lits, DataW.agg.injEq] at hx
  have hm := congrArg (fun l => l[i]?) hx.1
  simp only [List.getElem?_map, List.getElem?_eq_getElem hxi, Option.map_some, e2] at hm
  obtain ⟨x, hx1, hx2⟩ := Option.map_eq_some_iff.1 hm
  simp only [DataW.lit.injEq, Lit.int.injEq, true_and] at hx2
  have hL : Bl.nth L i = x := by unfold Bl.nth; rw [List.getD_eq_getElem?_getD, hx1]; rfl
  rw [c1, Nat.mul_one] at e1
  have : (cs.drop i)[0]? = some (.int k z) := by
    have := congrArg (fun l => l[0]?) e1
    simpa using this
  rw [List.getElem?_drop] at this
  rw [hL, hx2]; simpa using this
def lay2 {H : Type} : List (String × DataW H) := [("hibernacle/hash.eight", Rows.laid_hibernacle_hash_eight), ("hibernacle/hash.rows", Rows.laid_hibernacle_hash_rows)]
set_option maxRecDepth 100000 in
theorem of_laid {W : World} (h : laidMetH Tryd.prog [("hibernacle/hash.eight", Rows.laid_hibernacle_hash_eight), ("hibernacle/hash.rows", Rows.laid_hibernacle_hash_rows)] W) : Tab W := by
  rw [MakeChecks.laidMetH_plain _ _ _ (by kernel_rfl)] at h
  obtain ⟨ps, ⟨g0, t0, cs0, f0, p0, q0, hg0, ht0, hv0, hd0, ⟨g1, t1, cs1, f1, p1, q1, hg1, ht1, hv1, hd1, _, _⟩, _⟩, _, _⟩ := h
  obtain rfl := Option.some.inj (gEight.symm.trans hg0)
  obtain rfl := Option.some.inj (gRows.symm.trans hg1)
  obtain rfl := Option.some.inj (tEight.symm.trans ht0)
  obtain rfl := Option.some.inj (tRows.symm.trans ht1)
  have c41 : Tryd.prog.cellsOf 37 = 1 := by kernel_rfl
  have c5 : Tryd.prog.cellsOf 5 = 1 := by kernel_rfl
  have c74 : Tryd.prog.cellsOf 123 = 16 := by kernel_rfl
  refine ⟨fun i hi => ?_, fun r i hr hi => ?_⟩
  · rw [World.var?_cell hg0 hv0 i, ← Array.getElem?_toList]
    exact ints_trod (L := Bl.iv) Tryd.underlying88 Tryd.underlying37 c41 hd0 i hi
  · rw [World.var?_cell hg1 hv1 _, ← Array.getElem?_toList]
    obtain ⟨xs, m, rfl, hx, _, hn, hel⟩ := DataW.trod_array Tryd.underlying124 hd1
    have h1 := hel r hr
    have hxr : r < xs.length := by omega
    rw [List.getElem?_eq_getElem hxr] at h1
    simp only [Prod.mk.injEq, Rows.laid_hibernacle_hash_rows, DataW.agg.injEq] at hx
    have hm := congrArg (fun l => l[r]?) hx.1
    simp only [List.getElem?_map, List.getElem?_eq_getElem hxr, Option.map_some] at hm
    generalize xs[r] = X at *
    have hx1 : X.1 = lits .u8 (Bl.sig.getD r []) := by
      rw [eq_comm] at hm
      match r, hr, hm with
      | 0, _, hm => exact Option.some.inj hm
      | 1, _, hm => exact Option.some.inj hm
      | 2, _, hm => exact Option.some.inj hm
      | 3, _, hm => exact Option.some.inj hm
      | 4, _, hm => exact Option.some.inj hm
      | 5, _, hm => exact Option.some.inj hm
      | 6, _, hm => exact Option.some.inj hm
      | 7, _, hm => exact Option.some.inj hm
      | 8, _, hm => exact Option.some.inj hm
      | 9, _, hm => exact Option.some.inj hm
    have h2 := ints_trod (L := Bl.sig.getD r []) (q := X.2) Tryd.underlying123 Tryd.underlying5 c5 (by rw [h1, ← hx1]) i hi
    rw [c74, List.getElem?_take_of_lt hi, List.getElem?_drop] at h2
    rw [Nat.mul_comm 16 r]
    exact h2
end Go.Proofs.YtaoaebdjinlcnaaDoor
