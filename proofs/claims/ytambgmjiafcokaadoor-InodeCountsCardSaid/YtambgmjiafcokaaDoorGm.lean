/-
  THE PLAIN MATHEMATICS of a volume's plan and of the map of its blocks.
-/
import Derived.Test.YtambgmjiafcokaaDoorProg
import Derived.Test.YtambgmjiafcokaaDoorNv
namespace Go.Proofs.YtambgmjiafcokaaDoor
set_option linter.unusedVariables false
set_option linter.unusedSimpArgs false
namespace Gm
/-- a bit of a byte; the byte with that bit turned -/
def bitB (b : UInt8) (k : Nat) : Bool := b.toNat.testBit k
def flip (b : UInt8) (k : Nat) : UInt8 := UInt8.ofNat (b.toNat ^^^ 2 ^ k)
theorem flip_toNat (b : UInt8) {k : Nat} (hk : k < 8) : (flip b k).toNat = b.toNat ^^^ 2 ^ k := by
  have h : b.toNat ^^^ 2 ^ k < 2 ^ 8 := Nat.xor_lt_two_pow b.toNat_lt (Nat.pow_lt_pow_right (by decide) hk)
  exact Nu.toNat_ofNat h
theorem bit_flip (b : UInt8) {k j : Nat} (hk : k < 8) : bitB (flip b k) j = (bitB b j != decide (j = k)) := by
  unfold bitB
  rw [flip_toNat b hk, Nat.testBit_xor, Nat.testBit_two_pow]
  by_cases h : j = k
  · subst h; simp
  · have h' : ¬ k = j := fun e => h e.symm
    simp [h, h']
theorem byte_zero {b : UInt8} (h : ∀ k, k < 8 → bitB b k = false) : b = 0 := by
  have : b.toNat = 0 := by
    apply Nat.eq_of_testBit_eq
    intro i
    rw [Nat.zero_testBit]
    by_cases hi : i < 8
    · exact h i hi
    · exact Nat.testBit_lt_two_pow (Nat.lt_of_lt_of_le b.toNat_lt (Nat.pow_le_pow_right (by decide) (by omega)))
  exact UInt8.toNat_inj.1 this
theorem zero_bit (k : Nat) : bitB 0 k = false := Nat.zero_testBit k
/-- a bit of a map; the map with that bit turned -/
def bit (s : List UInt8) (i : Nat) : Bool := bitB (s.getD (i / 8) 0) (i % 8)
def turn (s : List UInt8) (i : Nat) : List UInt8 := s.set (i / 8) (flip (s.getD (i / 8) 0) (i % 8))
theorem turn_length (s : List UInt8) (i : Nat) : (turn s i).length = s.length := List.length_set
theorem bit_turn {s : List UInt8} {i j : Nat} (h : i / 8 < s.length) : bit (turn s i) j = (bit s j != decide (j = i)) := by
  unfold bit turn
  rw [List.getD_eq_getElem?_getD, List.getElem?_set]
  by_cases e : i / 8 = j / 8
  · rw [if_pos e, if_pos h, Option.getD_some, bit_flip _ (Nat.mod_lt _ (by decide)), e]
    congr 1
    rw [decide_eq_decide]
    omega
  · have ne : ¬ j = i := fun q => e (by rw [q])
    rw [if_neg e, ← List.getD_eq_getElem?_getD]
    simp [ne]
/-- two maps of like bits -/
theorem bit_inj {s t : List UInt8} (hs : s.length = t.length) (h : ∀ i, i < 8 * s.length → bit s i = bit t i) : s = t := by
  apply List.ext_getElem hs
  intro j h1 h2
  have key : ∀ k, k < 8 → bitB s[j] k = bitB t[j] k := by
    intro k hk
    have := h (8 * j + k) (by omega)
    unfold bit at this
    rw [show (8 * j + k) / 8 = j from by omega, show (8 * j + k) % 8 = k from by omega, List.getD_eq_getElem?_getD, List.getD_eq_getElem?_getD, List.getElem?_eq_getElem h1, List.getElem?_eq_getElem h2] at this
    exact this
  apply UInt8.toNat_inj.1
  apply Nat.eq_of_testBit_eq
  intro i
  by_cases hi : i < 8
  · exact key i hi
  · rw [Nat.testBit_lt_two_pow (Nat.lt_of_lt_of_le (s[j]).toNat_lt (Nat.pow_le_pow_right (by decide) (by omega))), Nat.testBit_lt_two_pow (Nat.lt_of_lt_of_le (t[j]).toNat_lt (Nat.pow_le_pow_right (by decide) (by omega)))]
/-- the plan -/
def dat (n : Nat) : Nat := 3 + (n + 1) / 2
def fits (b n : Nat) : Prop := 16 ≤ b ∧ b ≤ 223 ∧ 4 ≤ n ∧ n ≤ 64 ∧ dat n < b
/-- why there is no plan: 2 range, 10 full -/
def planE (b n : Int) : Int := if b < 16 ∨ 223 < b ∨ n < 4 ∨ 64 < n then 2 else if b ≤ (dat n.toNat : Nat) then 10 else 0
theorem planE_ok {b n : Int} (h : planE b n = 0) : ∃ x y : Nat, b = (x : Int) ∧ n = (y : Int) ∧ fits x y := by
  unfold planE at h
  by_cases h1 : b < 16 ∨ 223 < b ∨ n < 4 ∨ 64 < n
  · rw [if_pos h1] at h; exact absurd h (by decide)
  · rw [if_neg h1] at h
    by_cases h2 : b ≤ (dat n.toNat : Nat)
    · rw [if_pos h2] at h; exact absurd h (by decide)
    · refine ⟨b.toNat, n.toNat, by omega, by omega, by omega, by omega, by omega, by omega, by omega⟩
theorem planE_fits {x y : Nat} (h : fits x y) : planE (x : Int) (y : Int) = 0 := by
  obtain ⟨h1, h2, h3, h4, h5⟩ := h
  unfold planE
  rw [if_neg (by omega), if_neg (by rw [Int.toNat_natCast]; omega)]
def hib : List UInt8 := [104, 105, 98, 49]
/-- block 0 -/
def headL (b n : Nat) : List UInt8 := hib ++ (Nu.putB b 2 ++ (Nu.putB n 2 ++ List.replicate 120 0))
theorem headL_length (b n : Nat) : (headL b n).length = 128 := by
  unfold headL hib
  simp [Nu.putB_length]
theorem headL_b {b n : Nat} (h : b < 65536) : Nu.getB ((headL b n).drop 4 |>.take 2) = b := by
  unfold headL
  rw [List.drop_left' (by rfl), List.take_left' (by rw [Nu.putB_length]), Nu.get_put]
  exact Nat.mod_eq_of_lt h
theorem headL_n {b n : Nat} (h : n < 65536) : Nu.getB ((headL b n).drop 6 |>.take 2) = n := by
  unfold headL
  rw [← List.append_assoc, List.drop_left' (by rw [List.length_append, Nu.putB_length]; rfl), List.take_left' (by rw [Nu.putB_length]), Nu.get_put]
  exact Nat.mod_eq_of_lt h
/-- the map is as it may be -/
def okMap (m : List UInt8) (b n : Nat) : Prop := ∀ i, i < 1024 → (i < dat n → bit m i = true) ∧ (b ≤ i → bit m i = false)
end Gm
end Go.Proofs.YtambgmjiafcokaaDoor
