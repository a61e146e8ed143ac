/-
  Plain mathematics of fields: a word with one field another one differs in that field's bits alone.
-/
import Derived.Test.YtmafeekhbcpomaaDoorOw
import Derived.Test.YtmafeekhbcpomaaDoorDe
namespace Go.Proofs.YtmafeekhbcpomaaDoor
open Go.RowKit
set_option linter.unusedVariables false
set_option linter.unusedSimpArgs false
theorem not22 : ∀ t : Nat, t < 16 → bits .andNot .u32 ((t * 4194304 : Nat) : Int) 62914560 = 0 := by decide +kernel
theorem not18 : ∀ t : Nat, t < 16 → bits .andNot .u32 ((t * 262144 : Nat) : Int) 3932160 = 0 := by decide +kernel
theorem not14 : ∀ t : Nat, t < 16 → bits .andNot .u32 ((t * 16384 : Nat) : Int) 245760 = 0 := by decide +kernel
theorem xor16 {a b : Nat} (ha : a ≤ 15) (hb : b ≤ 15) : a ^^^ b < 16 := Nat.xor_lt_two_pow (n := 4) (by omega) (by omega)
theorem enc_v {x : Is.Ins} {v : Nat} (h : Is.enc x = (v, 0)) : v < 4294967296 := by
  have := Is.enc_lt x
  rw [h] at this
  exact this
set_option maxRecDepth 100000 in
theorem bitA {x : Is.Ins} {a v p : Nat} (hv : Is.enc x = (v, 0)) (hp : Is.enc { x with a := a } = (p, 0)) : bits .andNot .u32 (bits .xor .u32 (v : Int) (p : Int)) 62914560 = 0 ∧ bits .and .u32 ((p : Int) / 4194304) 15 = (a : Int) := by
  have lv := enc_v hv
  have lp := enc_v hp
  obtain ⟨ho, hr, h⟩ := Is.enc_ok hv
  obtain ⟨ho', hr', h'⟩ := Is.enc_ok hp
  obtain ⟨a1, b1, c1, d1⟩ := regs_le hr
  obtain ⟨a2, _, _, _⟩ := regs_le hr'
  simp only at h' a2
  have key : ∃ L, L < 4194304 ∧ v = x.op * 67108864 + x.a * 4194304 + L ∧ p = x.op * 67108864 + a * 4194304 + L := by
    rcases h with ⟨g, _, e⟩ | ⟨g, _, e⟩
    · rcases h' with ⟨_, _, e'⟩ | ⟨g', _, _⟩
      · unfold Is.front at e e'
        simp only at e'
        have k1 : x.b * 262144 + x.c * 16384 < 4194304 := by omega
        refine ⟨x.b * 262144 + x.c * 16384, k1, ?_, ?_⟩
        · rw [e]; simp only [Nat.add_mul, Nat.mul_assoc, Nat.reduceMul, Nat.add_assoc]
        · rw [e']; simp only [Nat.add_mul, Nat.mul_assoc, Nat.reduceMul, Nat.add_assoc]
      · exact absurd g g'
    · rcases h' with ⟨g', _, _⟩ | ⟨_, _, e'⟩
      · exact absurd g' g
      · have := d1 g
        unfold Is.front at e e'
        simp only at e'
        have k1 : x.b * 262144 + x.c * 16384 + (x.imm % 65536).toNat < 4194304 := by omega
        refine ⟨x.b * 262144 + x.c * 16384 + (x.imm % 65536).toNat, k1, ?_, ?_⟩
        · rw [e]; simp only [Nat.add_mul, Nat.mul_assoc, Nat.reduceMul, Nat.add_assoc]
        · rw [e']; simp only [Nat.add_mul, Nat.mul_assoc, Nat.reduceMul, Nat.add_assoc]
  obtain ⟨L, hL, e, e'⟩ := key
  constructor
  · rw [u32_xor_nat v p lv lp]
    have := Is.xor_mid x.op L x.a a 22 4 (by omega) (by omega) (by omega)
    rw [show x.op * 2 ^ (22 + 4) + x.a * 2 ^ 22 + L = v from by omega, show x.op * 2 ^ (22 + 4) + a * 2 ^ 22 + L = p from by omega] at this
    rw [this]
    exact not22 _ (xor16 a1 a2)
  · rw [show (p : Int) / 4194304 = ((p / 4194304 : Nat) : Int) from by omega, and15 _ (by omega)]
    omega
set_option maxRecDepth 100000 in
theorem bitB {x : Is.Ins} {b v p : Nat} (hv : Is.enc x = (v, 0)) (hp : Is.enc { x with b := b } = (p, 0)) : bits .andNot .u32 (bits .xor .u32 (v : Int) (p : Int)) 3932160 = 0 ∧ bits .and .u32 ((p : Int) / 262144) 15 = (b : Int) := by
  have lv := enc_v hv
  have lp := enc_v hp
  obtain ⟨ho, hr, h⟩ := Is.enc_ok hv
  obtain ⟨ho', hr', h'⟩ := Is.enc_ok hp
  obtain ⟨a1, b1, c1, d1⟩ := regs_le hr
  obtain ⟨_, b2, _, _⟩ := regs_le hr'
  simp only at h' b2
  have key : ∃ L, L < 262144 ∧ v = (x.op * 16 + x.a) * 4194304 + x.b * 262144 + L ∧ p = (x.op * 16 + x.a) * 4194304 + b * 262144 + L := by
    rcases h with ⟨g, _, e⟩ | ⟨g, _, e⟩
    · rcases h' with ⟨_, _, e'⟩ | ⟨g', _, _⟩
      · unfold Is.front at e e'
        simp only at e'
        have k1 : x.c * 16384 < 262144 := by omega
        refine ⟨x.c * 16384, k1, ?_, ?_⟩
        · rw [e]; simp only [Nat.add_mul, Nat.mul_assoc, Nat.reduceMul, Nat.add_assoc]
        · rw [e']; simp only [Nat.add_mul, Nat.mul_assoc, Nat.reduceMul, Nat.add_assoc]
      · exact absurd g g'
    · rcases h' with ⟨g', _, _⟩ | ⟨_, _, e'⟩
      · exact absurd g' g
      · have := d1 g
        unfold Is.front at e e'
        simp only at e'
        have k1 : x.c * 16384 + (x.imm % 65536).toNat < 262144 := by omega
        refine ⟨x.c * 16384 + (x.imm % 65536).toNat, k1, ?_, ?_⟩
        · rw [e]; simp only [Nat.add_mul, Nat.mul_assoc, Nat.reduceMul, Nat.add_assoc]
        · rw [e']; simp only [Nat.add_mul, Nat.mul_assoc, Nat.reduceMul, Nat.add_assoc]
  obtain ⟨L, hL, e, e'⟩ := key
  constructor
  · rw [u32_xor_nat v p lv lp]
    have := Is.xor_mid (x.op * 16 + x.a) L x.b b 18 4 (by omega) (by omega) (by omega)
    rw [show (x.op * 16 + x.a) * 2 ^ (18 + 4) + x.b * 2 ^ 18 + L = v from by omega, show (x.op * 16 + x.a) * 2 ^ (18 + 4) + b * 2 ^ 18 + L = p from by omega] at this
    rw [this]
    exact not18 _ (xor16 b1 b2)
  · rw [show (p : Int) / 262144 = ((p / 262144 : Nat) : Int) from by omega, and15 _ (by omega)]
    omega
theorem bitC {x : Is.Ins} {c v p : Nat} (hv : Is.enc x = (v, 0)) (hp : Is.enc { x with c := c } = (p, 0)) : bits .andNot .u32 (bits .xor .u32 (v : Int) (p : Int)) 245760 = 0 := by
  have lv := enc_v hv
  have lp := enc_v hp
  obtain ⟨ho, hr, h⟩ := Is.enc_ok hv
  obtain ⟨ho', hr', h'⟩ := Is.enc_ok hp
  obtain ⟨a1, b1, c1, d1⟩ := regs_le hr
  obtain ⟨_, _, c2, d2⟩ := regs_le hr'
  simp only at h' c2 d2
  rw [u32_xor_nat v p lv lp]
  rcases h with ⟨g, _, e⟩ | ⟨g, _, e⟩
  · rcases h' with ⟨_, _, e'⟩ | ⟨g', _, _⟩
    · unfold Is.front at e e'
      simp only at e'
      have := Is.xor_mid (x.op * 256 + x.a * 16 + x.b) 0 x.c c 14 4 (by omega) (by omega) (by omega)
      rw [show (x.op * 256 + x.a * 16 + x.b) * 2 ^ (14 + 4) + x.c * 2 ^ 14 + 0 = v from by omega, show (x.op * 256 + x.a * 16 + x.b) * 2 ^ (14 + 4) + c * 2 ^ 14 + 0 = p from by omega] at this
      rw [this]
      exact not14 _ (xor16 c1 c2)
    · exact absurd g g'
  · rcases h' with ⟨g', _, _⟩ | ⟨_, _, e'⟩
    · exact absurd g' g
    · have q1 := d1 g
      have q2 := d2 g
      unfold Is.front at e e'
      simp only at e'
      have : v = p := by omega
      rw [this, Nat.xor_self]
      exact not14 0 (by omega)
theorem bitI {x : Is.Ins} {n : Int} {v p : Nat} (hv : Is.enc x = (v, 0)) (hp : Is.enc { x with imm := n } = (p, 0)) : bits .xor .u32 (v : Int) (p : Int) / 65536 = 0 := by
  have lv := enc_v hv
  have lp := enc_v hp
  obtain ⟨ho, hr, h⟩ := Is.enc_ok hv
  obtain ⟨ho', hr', h'⟩ := Is.enc_ok hp
  obtain ⟨a1, b1, c1, d1⟩ := regs_le hr
  simp only at h'
  rw [u32_xor_nat v p lv lp]
  rcases h with ⟨g, _, e⟩ | ⟨g, _, e⟩
  · rcases h' with ⟨_, _, e'⟩ | ⟨g', _, _⟩
    · have : v = p := by unfold Is.front at e e'; simp only at e'; omega
      rw [this, Nat.xor_self]
      rfl
    · exact absurd g g'
  · rcases h' with ⟨g', _, _⟩ | ⟨_, _, e'⟩
    · exact absurd g' g
    · have q1 := d1 g
      unfold Is.front at e e'
      simp only at e'
      have := Is.xor_mid (x.op * 1024 + x.a * 64 + x.b * 4) 0 (x.imm % 65536).toNat (n % 65536).toNat 0 16 (by omega) (by omega) (by omega)
      rw [show (x.op * 1024 + x.a * 64 + x.b * 4) * 2 ^ (0 + 16) + (x.imm % 65536).toNat * 2 ^ 0 + 0 = v from by omega, show (x.op * 1024 + x.a * 64 + x.b * 4) * 2 ^ (0 + 16) + (n % 65536).toNat * 2 ^ 0 + 0 = p from by omega] at this
      rw [this]
      have : (x.imm % 65536).toNat ^^^ (n % 65536).toNat < 2 ^ 16 := Nat.xor_lt_two_pow (by omega) (by omega)
      omega
end Go.Proofs.YtmafeekhbcpomaaDoor
