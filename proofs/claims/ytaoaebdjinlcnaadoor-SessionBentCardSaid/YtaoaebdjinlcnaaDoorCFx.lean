/-
  THE WALK of the chapter's example; what the laws' arguments are.
-/
import Derived.Test.YtaoaebdjinlcnaaDoorCXc
set_option linter.unusedVariables false
set_option linter.unusedSimpArgs false
set_option maxRecDepth 100000
namespace Go.Proofs.YtaoaebdjinlcnaaDoor.Ci
open Go.RowKit
theorem by_zero (n : Nat) : Ch.By (List.replicate n 0) := fun x hx => by
  rw [List.eq_of_mem_replicate hx]; decide
theorem u8_ok {W : World} {base : Nat} {v : Value} (h : Cell.okWide Tryd.prog W .any base 5 v) : ∃ m : Nat, v = .int .u8 (m : Int) ∧ m < 256 := by
  unfold Cell.okWide at h
  rw [Tryd.underlying5] at h
  cases v <;> simp only [Cell.ok, Tryd.underlying5] at h
  obtain ⟨rfl, h⟩ := h
  rename_i n
  simp [IntKind.has, IntKind.min, IntKind.max, IntKind.signed, IntKind.bits] at h
  obtain ⟨m, rfl⟩ := Int.eq_ofNat_of_zero_le h.1
  exact ⟨m, rfl, by omega⟩
/-- cells that are bytes -/
theorem bytes_of (cs : Array Value) (h : ∀ (i : Nat) v, cs[i]? = some v → ∃ m : Nat, v = .int .u8 (m : Int) ∧ m < 256) : ∃ K : List Nat, cs = vs .u8 K ∧ K.length = cs.size ∧ Ch.By K := by
  refine ⟨cs.toList.map fun v => (intOf v).toNat, ?_, by simp, ?_⟩
  · apply Array.ext_getElem?
    intro i
    unfold vs
    simp only [List.map_map, List.getElem?_toArray, List.getElem?_map, Array.getElem?_toList]
    cases hi : cs[i]? with
    | none => rfl
    | some v =>
      obtain ⟨m, rfl, _⟩ := h i v hi
      rfl
  · intro x hx
    obtain ⟨v, hv, rfl⟩ := List.mem_map.1 hx
    obtain ⟨i, hi, rfl⟩ := List.getElem_of_mem hv
    obtain ⟨m, hm, hlt⟩ := h i cs[i] (by simp at hi; simp [hi])
    simp only [Array.getElem_toList]
    rw [hm]
    exact hlt
theorem okArr {t n : Nat} (T : ArrT t n) (hc : Tryd.prog.cellsOf t = n) (hts : Tryd.prog.cellTypes Tryd.prog.depth t = some (List.replicate n 5)) {W : World} {base : Nat} {v : Value}
    (h : Value.okWide Tryd.prog W .any base t v) : ∃ K : List Nat, v = .agg (vs .u8 K) ∧ K.length = n ∧ Ch.By K := by
  obtain ⟨e, hu⟩ := T.und
  simp only [Value.okWide, hu] at h
  obtain ⟨cs, rfl, hsz, ts, hts', _, hcell⟩ := h
  rw [hts] at hts'
  cases hts'
  obtain ⟨K, h1, h2, h3⟩ := bytes_of cs fun i v hv => by
    obtain ⟨u, hu, hk⟩ := hcell i v hv
    have : u = 5 := by
      rw [List.getElem?_replicate] at hu
      split at hu
      · exact (Option.some.inj hu).symm
      · cases hu
    subst this
    exact u8_ok hk
  exact ⟨K, by rw [← h1], by rw [h2, hsz, hc], h3⟩
theorem okKey {W : World} {base : Nat} {v : Value} (h : Value.okWide Tryd.prog W .any base 24 v) : ∃ K : List Nat, v = .agg (vs .u8 K) ∧ K.length = 32 ∧ Ch.By K := okArr t23 (by kernel_rfl) (by kernel_rfl) h
theorem okNonce {W : World} {base : Nat} {v : Value} (h : Value.okWide Tryd.prog W .any base 54 v) : ∃ K : List Nat, v = .agg (vs .u8 K) ∧ K.length = 12 ∧ Ch.By K := okArr t24 (by kernel_rfl) (by kernel_rfl) h
end Go.Proofs.YtaoaebdjinlcnaaDoor.Ci
