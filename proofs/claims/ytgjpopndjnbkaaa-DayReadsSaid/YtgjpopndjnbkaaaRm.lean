/-
  A text of digits in their places, and the minute whose text it is: plain mathematics.
-/
import Derived.Test.YtgjpopndjnbkaaaRn
namespace Go.Proofs.Ytgjpopndjnbkaaa
open Go.RowKit Go.Shelf
theorem rn_spec : ∀ (l : List UInt8) (a : Int), 0 ≤ a → 0 ≤ rn l a → vl l a = rn l a ∧ l = digs (rn l a).toNat l.length
  | [], a, _, _ => ⟨rfl, rfl⟩
  | c :: t, a, ha, h => by
    have b8 : c.toNat < 256 := UInt8.toNat_lt _
    simp only [rn] at h ⊢
    by_cases hc : c.toNat < 48 ∨ 57 < c.toNat
    · rw [if_pos hc] at h; omega
    · rw [if_neg hc] at h ⊢
      have hx : 0 ≤ 10 * a + (c.toNat : Int) - 48 := by omega
      obtain ⟨h1, h2⟩ := rn_spec t _ hx h
      refine ⟨h1, ?_⟩
      have h3 := vl_digs (rn t (10 * a + (c.toNat : Int) - 48)).toNat t.length (10 * a + (c.toNat : Int) - 48)
      rw [← h2, h1] at h3
      simp only [List.length_cons, digs]
      rw [← h2]
      congr 1
      generalize rn t (10 * a + (c.toNat : Int) - 48) = N at *
      obtain ⟨n, rfl⟩ := Int.eq_ofNat_of_zero_le h
      obtain ⟨x, hxx⟩ := Int.eq_ofNat_of_zero_le hx
      rw [hxx] at h3
      rw [Int.toNat_natCast] at h3 ⊢
      have p : 0 < 10 ^ t.length := Nat.pow_pos (by omega)
      have h4 : n = 10 ^ t.length * x + n % 10 ^ t.length := by
        have : ((n : Nat) : Int) = ((10 ^ t.length * x + n % 10 ^ t.length : Nat) : Int) := by
          rw [Int.natCast_add, Int.natCast_mul, Int.natCast_pow]; exact h3
        exact Int.ofNat.inj this
      have h5 : n / 10 ^ t.length = x := by
        have := Nat.div_add_mod n (10 ^ t.length)
        have e : 10 ^ t.length * (n / 10 ^ t.length) = 10 ^ t.length * x := by omega
        exact Nat.eq_of_mul_eq_mul_left p e
      rw [h5]
      apply UInt8.toNat_inj.1
      rw [dg_toNat]
      omega
theorem rn_vl : ∀ (l : List UInt8) (a : Int), (∀ c ∈ l, 48 ≤ c.toNat ∧ c.toNat ≤ 57) → rn l a = vl l a
  | [], _, _ => rfl
  | c :: t, a, h => by
    have := h c (by simp)
    simp only [rn, vl]
    rw [if_neg (by omega)]
    exact rn_vl t _ fun x hx => h x (List.mem_cons_of_mem _ hx)
theorem digs_num (n : Nat) : ∀ K, ∀ c ∈ digs n K, 48 ≤ c.toNat ∧ c.toNat ≤ 57
  | 0, c, h => by simp [digs] at h
  | K + 1, c, h => by
    simp only [digs, List.mem_cons] at h
    rcases h with rfl | h
    · rw [dg_toNat]; omega
    · exact digs_num n K c h
theorem rn_digs {n K : Nat} (h : n < 10 ^ K) : rn (digs n K) 0 = n := by
  rw [rn_vl _ _ (digs_num n K), vl_digs, Nat.mod_eq_of_lt h]; omega
/-- a year from its first day to the next one's -/
theorem nb_year (y : Int) : nb (y + 1) 0 0 = nb y 0 0 + 365 + if Cal.leap y = true then 1 else 0 := by
  have hl : 0 ≤ (y - 2000) % 400 ∧ (y - 2000) % 400 < 400 := by omega
  have hy : Cal.leap (2000 + (((y - 2000) % 400).toNat : Int)) = Cal.leap y := by
    rw [← Cal.leap_cycle _ ((y - 2000) / 400)]; congr 1; omega
  have hs := Cal.sm_year ((y - 2000) % 400).toNat
  rw [hy] at hs
  unfold nb
  by_cases h : (y - 2000) % 400 = 399
  · have e1 : (y + 1 - 2000) % 400 = 0 := by omega
    have e2 : (y + 1 - 2000) / 400 = (y - 2000) / 400 + 1 := by omega
    have e3 := Cal.sm_cycle
    rw [h] at hs
    rw [e1, e2, h]
    have e4 : Cal.sm (12 * ((399 : Int).toNat + 1)) = Cal.sm 4800 := rfl
    have e5 : Cal.sm (12 * (0 : Int).toNat + (0 : Int).toNat) = 0 := rfl
    have e6 : Cal.sm (12 * (399 : Int).toNat + (0 : Int).toNat) = Cal.sm (12 * (399 : Int).toNat) := rfl
    rw [e4, e3] at hs
    rw [e5, e6]
    generalize Cal.sm (12 * (399 : Int).toNat) = S at *
    generalize (if Cal.leap y = true then (1 : Int) else 0) = I at *
    omega
  · have e1 : ((y + 1 - 2000) % 400).toNat = ((y - 2000) % 400).toNat + 1 := by omega
    have e2 : (y + 1 - 2000) / 400 = (y - 2000) / 400 := by omega
    rw [e1, e2]
    show (y - 2000) / 400 * 146097 + 0 + Cal.sm (12 * (((y - 2000) % 400).toNat + 1)) = (y - 2000) / 400 * 146097 + 0 + Cal.sm (12 * (((y - 2000) % 400).toNat)) + 365 + _
    rw [hs]
    omega
theorem nb_parts {y m d : Int} (hm : 0 ≤ m ∧ m < 12) (hd : 0 ≤ d ∧ d < Cal.dm y m) : ye (nb y m d) = y ∧ mt (nb y m d) = m ∧ dd (nb y m d) = d := by
  have hl : 0 ≤ (y - 2000) % 400 ∧ (y - 2000) % 400 < 400 := by omega
  have hy : Cal.dm (2000 + (((y - 2000) % 400).toNat : Int)) m = Cal.dm y m := by
    rw [← Cal.dm_cycle _ ((y - 2000) / 400)]; congr 1; omega
  have hmd := Cal.md_year ((y - 2000) % 400).toNat m.toNat (by omega)
  have hmm : ((m.toNat : Nat) : Int) = m := by omega
  rw [hmm, hy] at hmd
  have hst : Cal.sm (12 * ((y - 2000) % 400).toNat + m.toNat + 1) = Cal.sm (12 * ((y - 2000) % 400).toNat + m.toNat) + Cal.md (12 * ((y - 2000) % 400).toNat + m.toNat) := rfl
  have hle := Cal.sm_le (12 * ((y - 2000) % 400).toNat + m.toNat + 1) 4800 (by omega)
  have hn := Cal.sm_nonneg (12 * ((y - 2000) % 400).toNat + m.toNat)
  rw [Cal.sm_cycle] at hle
  rw [hmd] at hst
  have hc : nb y m d / 146097 = (y - 2000) / 400 ∧ nb y m d % 146097 = d + Cal.sm (12 * ((y - 2000) % 400).toNat + m.toNat) := by unfold nb; omega
  have hmo := Cal.mo_unique (r := d + Cal.sm (12 * ((y - 2000) % 400).toNat + m.toNat)) (k := 12 * ((y - 2000) % 400).toNat + m.toNat) (by omega) (by omega) (by omega) (by omega)
  unfold ye mt dd
  rw [hc.1, hc.2, ← hmo]
  omega
theorem nb_month {y m d : Int} (hm : 0 ≤ m ∧ m < 11) : nb y (m + 1) d = nb y m d + Cal.dm y m := by
  have hy : Cal.dm (2000 + (((y - 2000) % 400).toNat : Int)) m = Cal.dm y m := by
    rw [← Cal.dm_cycle _ ((y - 2000) / 400)]; congr 1; omega
  have hmd := Cal.md_year ((y - 2000) % 400).toNat m.toNat (by omega)
  have hmm : ((m.toNat : Nat) : Int) = m := by omega
  rw [hmm, hy] at hmd
  have hst : Cal.sm (12 * ((y - 2000) % 400).toNat + (m + 1).toNat) = Cal.sm (12 * ((y - 2000) % 400).toNat + m.toNat) + Cal.md (12 * ((y - 2000) % 400).toNat + m.toNat) := by
    rw [show 12 * ((y - 2000) % 400).toNat + (m + 1).toNat = 12 * ((y - 2000) % 400).toNat + m.toNat + 1 from by omega]; rfl
  unfold nb
  rw [hst, hmd]
  omega
end Go.Proofs.Ytgjpopndjnbkaaa
