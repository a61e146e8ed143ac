/-
  How cuts that come in are opened.
-/
import Derived.Test.YtingpadjciohjaaRows
import Derived.Test.YtingpadjciohjaaAl
import Derived.ProofKit
import Derived.OpenShut
namespace Go.Proofs.Ytingpadjciohjaa
open Go.ChangeShapes Go.WideShapes Go.ChangeAt Go.RowKit
set_option linter.unusedVariables false
theorem laidOut : laidOutB Try.prog = true := by kernel_rfl
theorem i64_ok {W : World} {base : Nat} {v : Value} (h : Cell.okWide Try.prog W .any base 3 v) : ∃ n : Int, v = .int .i64 n ∧ -9223372036854775808 ≤ n ∧ n ≤ 9223372036854775807 := by
  unfold Cell.okWide at h
  rw [Try.underlying3] at h
  cases v <;> simp only [Cell.ok, Try.underlying3] at h
  obtain ⟨rfl, h⟩ := h
  rename_i n
  simp [IntKind.has, IntKind.min, IntKind.max, IntKind.signed, IntKind.bits] at h
  exact ⟨n, rfl, by omega⟩
theorem u32_ok {W : World} {base : Nat} {v : Value} (h : Cell.okWide Try.prog W .any base 22 v) : ∃ m : Nat, v = .int .u32 (m : Int) ∧ m < 4294967296 := by
  unfold Cell.okWide at h
  rw [Try.underlying22] at h
  cases v <;> simp only [Cell.ok, Try.underlying22] at h
  obtain ⟨rfl, h⟩ := h
  rename_i n
  simp [IntKind.has, IntKind.min, IntKind.max, IntKind.signed, IntKind.bits] at h
  obtain ⟨m, rfl⟩ := Int.eq_ofNat_of_zero_le h.1
  exact ⟨m, rfl, by omega⟩
def I64 (n : Int) : Prop := -9223372036854775808 ≤ n ∧ n ≤ 9223372036854775807
theorem okCuts {W : World} {base : Nat} {v : Value} (h : Value.okWide Try.prog W .any base 24 v) : ∃ (w lo hi : Int) (m : Nat), v = .agg (cc w lo hi m) ∧ I64 w ∧ I64 lo ∧ I64 hi ∧ m < 4294967296 := by
  simp only [Value.okWide, Try.underlying24] at h
  obtain ⟨cs, rfl, hsz, ts, hts', _, hcell⟩ := h
  rw [show Try.prog.cellTypes Try.prog.depth 24 = some [3, 3, 3, 22] from by kernel_rfl] at hts'
  cases hts'
  have hs : cs.size = 4 := by rw [hsz]; kernel_rfl
  have get : ∀ i, i < 4 → ∃ v, cs[i]? = some v ∧ ∃ u, [3, 3, 3, 22][i % 4]? = some u ∧ Cell.okWide Try.prog W .any base u v := fun i hi => by
    have : i < cs.size := by omega
    exact ⟨cs[i], by simp [this], hcell i cs[i] (by simp [this])⟩
  obtain ⟨v0, e0, u0, f0, g0⟩ := get 0 (by omega)
  obtain ⟨v1, e1, u1, f1, g1⟩ := get 1 (by omega)
  obtain ⟨v2, e2, u2, f2, g2⟩ := get 2 (by omega)
  obtain ⟨v3, e3, u3, f3, g3⟩ := get 3 (by omega)
  cases f0; cases f1; cases f2; cases f3
  obtain ⟨w, rfl, hw⟩ := i64_ok g0
  obtain ⟨lo, rfl, hlo⟩ := i64_ok g1
  obtain ⟨hi, rfl, hhi⟩ := i64_ok g2
  obtain ⟨m, rfl, hm⟩ := u32_ok g3
  refine ⟨w, lo, hi, m, ?_, hw, hlo, hhi, hm⟩
  congr 1
  apply Array.ext_getElem?
  intro i
  rcases (by omega : i = 0 ∨ i = 1 ∨ i = 2 ∨ i = 3 ∨ 4 ≤ i) with rfl | rfl | rfl | rfl | hi
  · exact e0
  · exact e1
  · exact e2
  · exact e3
  · rw [Array.getElem?_eq_none (by omega), Array.getElem?_eq_none (by simpa [cc] using hi)]
theorem nat_u8 {n : Int} (h : (Lit.int .u8 n).wf = true) : ∃ m : Nat, n = (m : Int) ∧ m < 256 := by
  simp [Lit.wf, IntKind.min, IntKind.max, IntKind.signed, IntKind.bits] at h
  obtain ⟨m, rfl⟩ := Int.eq_ofNat_of_zero_le h.1
  exact ⟨m, rfl, by omega⟩
end Go.Proofs.Ytingpadjciohjaa
