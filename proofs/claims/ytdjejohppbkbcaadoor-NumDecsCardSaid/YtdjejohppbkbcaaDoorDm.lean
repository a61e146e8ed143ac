/-
  Plain mathematics of decimal texts: what is read of a numeral, digit by digit.
-/
import Derived.Lib.ParseIntBCases
import Derived.Lib.ItoaLen
import Derived.Lib.ItoaNum
namespace Go.Proofs.YtdjejohppbkbcaaDoor
namespace Dm
open Go.Lib
set_option linter.unusedVariables false
set_option linter.unusedSimpArgs false
theorem dig_nat {d : Nat} (h : d < 10) : (UInt8.ofNat (48 + d)).toNat = 48 + d := by rw [UInt8.toNat_ofNat']; omega
theorem dec_small {u : Nat} (h : u < 10) : decDigits u = [UInt8.ofNat (48 + u)] := decDigits_one h
theorem dec_big {u : Nat} (h : ¬ u < 10) : decDigits u = decDigits (u / 10) ++ [UInt8.ofNat (48 + u % 10)] := by
  conv => lhs; rw [decDigits, dif_neg h]
/-- all of a numeral's bytes are digits; it has one at least -/
theorem dec_digits (u : Nat) : decDigits u ≠ [] ∧ ∀ c ∈ decDigits u, 48 ≤ c.toNat ∧ c.toNat ≤ 57 := by
  induction u using Nat.strongRecOn with
  | _ u ih =>
    by_cases h : u < 10
    · rw [dec_small h]
      refine ⟨by simp, fun c hc => ?_⟩
      rw [List.mem_singleton.1 hc, dig_nat h]
      omega
    · rw [dec_big h]
      refine ⟨by simp, fun c hc => ?_⟩
      rcases List.mem_append.1 hc with hc | hc
      · exact (ih (u / 10) (by omega)).2 c hc
      · rw [List.mem_singleton.1 hc, dig_nat (Nat.mod_lt _ (by omega))]
        omega
theorem parse_dec (M : Nat) (hM : M ≤ 18446744073709551615) (u : Nat) : ∀ r, u ≤ M → parseUintM M 0 (decDigits u ++ r) = parseUintM M u r := by
  induction u using Nat.strongRecOn with
  | _ u ih =>
    intro r hu
    by_cases h : u < 10
    · rw [dec_small h]
      show parseUintM M 0 (UInt8.ofNat (48 + u) :: r) = _
      rw [parseUintM, dig_nat h, if_pos (by omega), if_neg (by omega), if_neg (by omega)]
      congr 1
      omega
    · rw [dec_big h, List.append_assoc, ih (u / 10) (by omega) _ (by omega)]
      have hd : u % 10 < 10 := Nat.mod_lt _ (by omega)
      show parseUintM M (u / 10) (UInt8.ofNat (48 + u % 10) :: r) = _
      rw [parseUintM, dig_nat hd, if_pos (by omega), if_neg (by omega), if_neg (by omega)]
      congr 1
      omega
theorem parseB_dec (u : Nat) (hu : u ≤ 18446744073709551615) : parseUintB 64 (decDigits u) = .ok u := by
  unfold parseUintB
  rw [if_neg (dec_digits u).1]
  have := parse_dec (2 ^ 64 - 1) (by decide) u [] (by rw [show 2 ^ 64 - 1 = 18446744073709551615 from by decide]; exact hu)
  rw [List.append_nil] at this
  rw [this]
  rfl
theorem parse_itoa (n : Int) (h0 : -9223372036854775808 ≤ n) (h1 : n ≤ 9223372036854775807) : parseIntB 64 (itoa n) = .ok n := by
  by_cases hneg : n < 0
  · obtain ⟨u, rfl⟩ : ∃ u : Nat, n = -(u : Int) := ⟨n.natAbs, by omega⟩
    rw [itoa_neg u (by omega), parseIntB_minus, parseB_dec u (by omega)]
    unfold signedC
    dsimp only
    rw [if_neg (by rw [show 2 ^ (64 - 1) = 9223372036854775808 from by decide]; omega)]
  · obtain ⟨u, rfl⟩ : ∃ u : Nat, n = u := ⟨n.toNat, by omega⟩
    rw [itoa_nonneg]
    have hd := dec_digits u
    have hp := parseB_dec u (by omega)
    cases hl : decDigits u with
    | nil => exact absurd hl hd.1
    | cons c r =>
      have hc := hd.2 c (by rw [hl]; simp)
      rw [parseIntB_plain 64 c r (by omega) (by omega), ← hl, hp]
      unfold signlessC
      dsimp only
      rw [if_neg (by rw [show 2 ^ (64 - 1) = 9223372036854775808 from by decide]; omega)]
def In (n : Int) : Prop := -9223372036854775808 ≤ n ∧ n ≤ 9223372036854775807
theorem itoa_inj {n m : Int} (hn : In n) (hm : In m) (h : itoa n = itoa m) : n = m := by
  have a := parse_itoa n hn.1 hn.2
  have b := parse_itoa m hm.1 hm.2
  rw [h, b] at a
  injection a with a
  exact a.symm
theorem nDigits_le (k u : Nat) (hk : 1 ≤ k) : u < 10 ^ k → nDigits u ≤ k := by
  induction k generalizing u with
  | zero => omega
  | succ k ih =>
    intro h
    by_cases hs : u < 10
    · rw [nDigits_small hs]; omega
    · rw [nDigits_big hs]
      by_cases h0 : k = 0
      · subst h0; simp at h; omega
      · have := ih (u / 10) (by omega) (by rw [Nat.pow_succ] at h; omega)
        omega
theorem itoa_len {n : Int} (h : In n) : 1 ≤ (itoa n).length ∧ (itoa n).length ≤ 20 := by
  unfold In at h
  by_cases hneg : n < 0
  · obtain ⟨u, rfl⟩ : ∃ u : Nat, n = -(u : Int) := ⟨n.natAbs, by omega⟩
    rw [itoa_neg u (by omega), List.length_cons, decDigits_length]
    have := nDigits_le 19 u (by omega) (by rw [show 10 ^ 19 = 10000000000000000000 from by decide]; omega)
    omega
  · obtain ⟨u, rfl⟩ : ∃ u : Nat, n = u := ⟨n.toNat, by omega⟩
    rw [itoa_nonneg, decDigits_length]
    have := nDigits_le 19 u (by omega) (by rw [show 10 ^ 19 = 10000000000000000000 from by decide]; omega)
    have := nDigits_pos u
    omega
/-- the last digit by itself -/
theorem itoa_step (n : Int) (h : ¬ (-10 < n ∧ n < 10)) : itoa n = itoa (n.tdiv 10) ++ itoa ((n.natAbs % 10 : Nat) : Int) := by
  have hd : n.natAbs % 10 < 10 := Nat.mod_lt _ (by omega)
  rw [itoa_nonneg (n.natAbs % 10), dec_small hd]
  by_cases hneg : n < 0
  · obtain ⟨u, rfl⟩ : ∃ u : Nat, n = -(u : Int) := ⟨n.natAbs, by omega⟩
    have e : (-(u : Int)).tdiv 10 = -((u / 10 : Nat) : Int) := by rw [Int.neg_tdiv, Int.tdiv_eq_ediv_of_nonneg (by omega)]; rfl
    rw [e, itoa_neg u (by omega), itoa_neg (u / 10) (by omega), dec_big (by omega), Int.natAbs_neg, Int.natAbs_natCast]
    rfl
  · obtain ⟨u, rfl⟩ : ∃ u : Nat, n = u := ⟨n.toNat, by omega⟩
    have e : ((u : Int)).tdiv 10 = ((u / 10 : Nat) : Int) := by rw [Int.tdiv_eq_ediv_of_nonneg (by omega)]; rfl
    rw [e, itoa_nonneg, itoa_nonneg, dec_big (by omega), Int.natAbs_natCast]
/-- the document's reading: digit by digit, in sixty-four bits -/
def wr (n : Int) : Int := (n + 9223372036854775808) % 18446744073709551616 - 9223372036854775808
def st (neg : Bool) (a : Int) (c : UInt8) : Int := if neg then wr (wr (a * 10) - ((c.toNat : Int) - 48)) else wr (wr (a * 10) + ((c.toNat : Int) - 48))
def rd (neg : Bool) (l : List UInt8) : Int := l.foldl (st neg) 0
theorem rd_snoc (neg : Bool) (l : List UInt8) (c : UInt8) : rd neg (l ++ [c]) = st neg (rd neg l) c := by unfold rd; rw [List.foldl_append]; rfl
theorem wr_in {n : Int} (h : In n) : wr n = n := by
  unfold In at h
  unfold wr
  omega
theorem rd_pos (u : Nat) : u ≤ 9223372036854775807 → rd false (decDigits u) = u := by
  induction u using Nat.strongRecOn with
  | _ u ih =>
    intro hu
    by_cases h : u < 10
    · rw [dec_small h]
      show st false 0 _ = _
      unfold st
      rw [dig_nat h, if_neg (by decide), show wr (0 * 10) = 0 from rfl, wr_in (by unfold In; omega)]
      omega
    · have hd : u % 10 < 10 := Nat.mod_lt _ (by omega)
      rw [dec_big h, rd_snoc, ih (u / 10) (by omega) (by omega)]
      unfold st
      rw [dig_nat hd, if_neg (by decide), wr_in (n := ((u / 10 : Nat) : Int) * 10) (by unfold In; omega), wr_in (by unfold In; omega)]
      omega
theorem rd_neg (u : Nat) : u ≤ 9223372036854775808 → rd true (decDigits u) = -(u : Int) := by
  induction u using Nat.strongRecOn with
  | _ u ih =>
    intro hu
    by_cases h : u < 10
    · rw [dec_small h]
      show st true 0 _ = _
      unfold st
      rw [dig_nat h, if_pos rfl, show wr (0 * 10) = 0 from rfl, wr_in (by unfold In; omega)]
      omega
    · have hd : u % 10 < 10 := Nat.mod_lt _ (by omega)
      rw [dec_big h, rd_snoc, ih (u / 10) (by omega) (by omega)]
      unfold st
      rw [dig_nat hd, if_pos rfl, wr_in (n := -((u / 10 : Nat) : Int) * 10) (by unfold In; omega), wr_in (by unfold In; omega)]
      omega
end Dm
end Go.Proofs.YtdjejohppbkbcaaDoor
