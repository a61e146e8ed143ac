/-
  How arguments of bytes that come in are opened.
-/
import Derived.Test.YtgfnpemonpebpaaRows
import Derived.Test.YtgfnpemonpebpaaSa
import Derived.ProofKit
import Derived.OpenShut
import Derived.ShutString
import Derived.SizedLaws
namespace Go.Proofs.Ytgfnpemonpebpaa
open Go.ChangeShapes Go.WideShapes Go.ChangeAt Go.RowKit
set_option linter.unusedVariables false
set_option linter.unusedSimpArgs false
theorem laidOut : laidOutB Try.prog = true := by kernel_rfl
theorem u8_ok {W : World} {base : Nat} {v : Value} (h : Cell.okWide Try.prog W .any base 5 v) : ∃ m : Nat, v = .int .u8 (m : Int) ∧ m < 256 := by
  unfold Cell.okWide at h
  rw [Try.underlying5] at h
  cases v <;> simp only [Cell.ok, Try.underlying5] at h
  obtain ⟨rfl, h⟩ := h
  rename_i n
  simp [IntKind.has, IntKind.min, IntKind.max, IntKind.signed, IntKind.bits] at h
  obtain ⟨m, rfl⟩ := Int.eq_ofNat_of_zero_le h.1
  exact ⟨m, rfl, by omega⟩
/-- cells that are bytes -/
theorem bytes_of (cs : Array Value) (h : ∀ (i : Nat) v, cs[i]? = some v → ∃ m : Nat, v = .int .u8 (m : Int) ∧ m < 256) : ∃ K : List Nat, cs = vs K ∧ K.length = cs.size ∧ Gf.Bytes K := by
  refine ⟨cs.toList.map fun v => (intOf v).toNat, ?_, by simp, ?_⟩
  · apply Array.ext_getElem?
    intro i
    unfold vs vl
    simp only [List.map_map, List.getElem?_toArray, List.getElem?_map, Array.getElem?_toList]
    cases hi : cs[i]? with
    | none => rfl
    | some v =>
      obtain ⟨m, rfl, _⟩ := h i v hi
      rfl
  · intro x hx
    obtain ⟨v, hv, rfl⟩ := List.mem_map.1 hx
    obtain ⟨i, hi, rfl⟩ := List.getElem_of_mem hv
    obtain ⟨m, hm, hlt⟩ := h i cs[i] (by simp at hi; simp [hi])
    simp only [Array.getElem_toList]
    rw [hm]
    exact hlt
theorem okArr {t n : Nat} (T : AggT t n) (hc : Try.prog.cellsOf t = n) (hts : Try.prog.cellTypes Try.prog.depth t = some (List.replicate n 5)) {W : World} {base : Nat} {v : Value}
    (h : Value.okWide Try.prog W .any base t v) : ∃ K : List Nat, v = .agg (vs K) ∧ K.length = n ∧ Gf.Bytes K := by
  obtain ⟨e, hu, _, hrow⟩ := T.und
  simp only [Value.okWide, hu] at h
  have h' : ∃ cs, v = Value.agg cs ∧ cs.size = Try.prog.cellsOf t ∧ Row.okWide Try.prog W Reach.any base t cs := by
    cases e <;> simp at hrow <;> exact h
  obtain ⟨cs, rfl, hsz, ts, hts', _, hcell⟩ := h'
  rw [hts] at hts'
  cases hts'
  obtain ⟨K, h1, h2, h3⟩ := bytes_of cs fun i v hv => by
    obtain ⟨u, hu, hk⟩ := hcell i v hv
    have : u = 5 := by
      rw [List.getElem?_replicate] at hu
      split at hu
      · exact (Option.some.inj hu).symm
      · cases hu
    subst this
    exact u8_ok hk
  exact ⟨K, by rw [← h1], by rw [h2, hsz, hc], h3⟩
theorem t38 : AggT 38 2 := ⟨⟨_, Try.underlying38, by kernel_rfl, rfl⟩, by kernel_rfl⟩
theorem okPick {W : World} {base : Nat} {v : Value} (h : Value.okWide Try.prog W .any base 34 v) : ∃ K : List Nat, v = .agg (vs K) ∧ K.length = 3 ∧ Gf.Bytes K := okArr t34 (by kernel_rfl) (by kernel_rfl) h
theorem okTwo {W : World} {base : Nat} {v : Value} (h : Value.okWide Try.prog W .any base 38 v) : ∃ K : List Nat, v = .agg (vs K) ∧ K.length = 2 ∧ Gf.Bytes K := okArr t38 (by kernel_rfl) (by kernel_rfl) h
theorem nat_u8 {n : Int} (h : (Lit.int .u8 n).wf = true) : ∃ m : Nat, n = (m : Int) ∧ m < 256 := by
  simp [Lit.wf, IntKind.min, IntKind.max, IntKind.signed, IntKind.bits] at h
  obtain ⟨m, rfl⟩ := Int.eq_ofNat_of_zero_le h.1
  exact ⟨m, rfl, by omega⟩
theorem nat_u16 {n : Int} (h : (Lit.int .u16 n).wf = true) : ∃ m : Nat, n = (m : Int) ∧ m < 65536 := by
  simp [Lit.wf, IntKind.min, IntKind.max, IntKind.signed, IntKind.bits] at h
  obtain ⟨m, rfl⟩ := Int.eq_ofNat_of_zero_le h.1
  exact ⟨m, rfl, by omega⟩
theorem wf_i64' {n : Int} (h : (Lit.int .i64 n).wf = true) : -9223372036854775808 ≤ n ∧ n ≤ 9223372036854775807 := by
  simp [Lit.wf, IntKind.min, IntKind.max, IntKind.signed, IntKind.bits] at h
  omega
end Go.Proofs.Ytgfnpemonpebpaa
