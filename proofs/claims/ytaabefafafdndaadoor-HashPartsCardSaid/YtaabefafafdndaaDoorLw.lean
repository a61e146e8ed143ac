/-
  A digest's text and the digest of a text: there and back.
-/
import Derived.Test.YtaabefafafdndaaDoorEq
namespace Go.Proofs.YtaabefafafdndaaDoor
open Go.RowKit
theorem hex_nth : ∀ (D : List Nat) (i : Nat), i < D.length → Bl.nth (Bl.hex D) (2 * i) = Bl.sign (Bl.nth D i / 16) ∧ Bl.nth (Bl.hex D) (2 * i + 1) = Bl.sign (Bl.nth D i % 16)
  | [], i, h => absurd h (by simp)
  | x :: D, 0, _ => ⟨rfl, rfl⟩
  | x :: D, i + 1, h => by
    have ih := hex_nth D i (by simpa using h)
    have e : ∀ j, Bl.nth (Bl.hex (x :: D)) (j + 2) = Bl.nth (Bl.hex D) j := fun j => rfl
    rw [show 2 * (i + 1) = 2 * i + 2 from by omega, show 2 * i + 2 + 1 = (2 * i + 1) + 2 from by omega, e, e]
    exact ih
theorem sign_hz : ∀ b, b < 256 → 0 ≤ hz b → Bl.sign (hz b).toNat = b := by decide +kernel
theorem hz_sign : ∀ x, x < 16 → hz (Bl.sign x) = (x : Int) := by decide +kernel
theorem list_ext {A B : List Nat} (hl : A.length = B.length) (h : ∀ i, i < A.length → Bl.nth A i = Bl.nth B i) : A = B :=
  (nth_ext hl).1 fun i hi => h i (List.mem_range.1 hi)
theorem isD_len {t : List Nat} (h : isD t = true) : t.length = 64 := by
  unfold isD at h
  rw [Bool.and_eq_true] at h
  simpa using h.1
theorem isD_fit {t : List Nat} (h : isD t = true) {i : Nat} (hi : i < 32) : 0 ≤ hz (Bl.nth t (2 * i)) ∧ 0 ≤ hz (Bl.nth t (2 * i + 1)) := by
  unfold isD at h
  rw [Bool.and_eq_true, List.all_eq_true] at h
  have := h.2 i (List.mem_range.2 hi)
  unfold fit at this
  simpa using this
theorem hex_of {t : List Nat} (hb : Bl.By t) (h : isD t = true) : Bl.hex (ofD t) = t := by
  have l := isD_len h
  have e : ofD t = vals t := by unfold ofD; rw [h]; rfl
  rw [e]
  refine list_ext (by rw [hex_len, vals_length, l]) fun j hj => ?_
  rw [hex_len, vals_length] at hj
  have hi : j / 2 < 32 := by omega
  obtain ⟨h1, h2⟩ := hex_nth (vals t) (j / 2) (by rw [vals_length]; exact hi)
  rw [vals_nth t hi] at h1 h2
  obtain ⟨f1, f2⟩ := isD_fit h hi
  have z1 := hz_lt (Bl.nth t (2 * (j / 2)))
  have z2 := hz_lt (Bl.nth t (2 * (j / 2) + 1))
  have d1 : val t (j / 2) / 16 = (hz (Bl.nth t (2 * (j / 2)))).toNat := by unfold val; omega
  have d2 : val t (j / 2) % 16 = (hz (Bl.nth t (2 * (j / 2) + 1))).toNat := by unfold val; omega
  rw [d1, sign_hz _ (hb.nth _) f1] at h1
  rw [d2, sign_hz _ (hb.nth _) f2] at h2
  rcases Nat.mod_two_eq_zero_or_one j with m | m
  · rw [show j = 2 * (j / 2) from by omega]; exact h1
  · rw [show j = 2 * (j / 2) + 1 from by omega]; exact h2
theorem isD_hex {D : List Nat} (hb : Bl.By D) (l : D.length = 32) : isD (Bl.hex D) = true := by
  refine isD_all (by rw [hex_len, l]) fun i hi => ?_
  obtain ⟨h1, h2⟩ := hex_nth D i (by omega)
  have := hb.nth i
  unfold fit
  rw [h1, h2, hz_sign _ (by omega), hz_sign _ (by omega)]
  simp
  omega
theorem of_hex {D : List Nat} (hb : Bl.By D) (l : D.length = 32) : ofD (Bl.hex D) = D := by
  have e : ofD (Bl.hex D) = vals (Bl.hex D) := by unfold ofD; rw [isD_hex hb l]; rfl
  rw [e]
  refine list_ext (by rw [vals_length, l]) fun i hi => ?_
  rw [vals_length] at hi
  obtain ⟨h1, h2⟩ := hex_nth D i (by omega)
  have := hb.nth i
  rw [vals_nth _ hi]
  unfold val
  rw [h1, h2, hz_sign _ (by omega), hz_sign _ (by omega)]
  omega
theorem sign_lt : ∀ x, x < 16 → Bl.sign x < 256 := by decide
theorem hex_by {D : List Nat} (hb : Bl.By D) : Bl.By (Bl.hex D) := fun x hx => by
  unfold Bl.hex at hx
  obtain ⟨y, hy, h⟩ := List.mem_flatMap.1 hx
  have := hb y hy
  simp only [List.mem_cons, List.not_mem_nil, or_false] at h
  rcases h with rfl | rfl
  · exact sign_lt _ (by omega)
  · exact sign_lt _ (by omega)
theorem tn_hex {D : List Nat} (hb : Bl.By D) : tn (bs (Bl.hex D)) = Bl.hex D := tn_bs (hex_by hb)
theorem hex_inj {D E : List Nat} (hD : Bl.By D) (hE : Bl.By E) (lD : D.length = 32) (lE : E.length = 32) (h : bs (Bl.hex D) = bs (Bl.hex E)) : D = E := by
  have := congrArg tn h
  rw [tn_hex hD, tn_hex hE] at this
  rw [← of_hex hD lD, ← of_hex hE lE, this]
end Go.Proofs.YtaabefafafdndaaDoor
