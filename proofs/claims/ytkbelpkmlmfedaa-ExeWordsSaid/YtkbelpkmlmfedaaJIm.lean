/-
  Plain mathematics of an instruction's word: fields, ranges, there and back.
-/
namespace Is
def isOp (op : Nat) : Prop := 1 ≤ op ∧ op ≤ 31
def hasA (op : Nat) : Prop := op ≠ 31
def hasB (op : Nat) : Prop := op ≠ 19 ∧ op ≠ 29 ∧ op ≠ 31
def hasC (op : Nat) : Prop := op ≤ 13
def hasImm (op : Nat) : Prop := 13 < op
def uns (op : Nat) : Prop := (15 ≤ op ∧ op ≤ 17) ∨ op = 19 ∨ op = 31
def right (h : Prop) (r : Nat) : Prop := r = 0 ∨ (h ∧ r ≤ 15)
def inR (op : Nat) (n : Int) : Prop := (uns op ∧ 0 ≤ n ∧ n ≤ 65535) ∨ (¬ uns op ∧ -32768 ≤ n ∧ n ≤ 32767)
instance (op : Nat) : Decidable (isOp op) := by unfold isOp; infer_instance
instance (op : Nat) : Decidable (hasA op) := by unfold hasA; infer_instance
instance (op : Nat) : Decidable (hasB op) := by unfold hasB; infer_instance
instance (op : Nat) : Decidable (hasC op) := by unfold hasC; infer_instance
instance (op : Nat) : Decidable (hasImm op) := by unfold hasImm; infer_instance
instance (op : Nat) : Decidable (uns op) := by unfold uns; infer_instance
instance (h : Prop) [Decidable h] (r : Nat) : Decidable (right h r) := by unfold right; infer_instance
instance (op : Nat) (n : Int) : Decidable (inR op n) := by unfold inR; infer_instance
/-- an instruction -/
structure Ins where
  op : Nat
  a : Nat
  b : Nat
  c : Nat
  imm : Int
deriving DecidableEq
def Ins.Ok (x : Ins) : Prop := x.op < 256 ∧ x.a < 256 ∧ x.b < 256 ∧ x.c < 256 ∧ -2147483648 ≤ x.imm ∧ x.imm ≤ 2147483647
def zero : Ins := ⟨0, 0, 0, 0, 0⟩
def front (x : Ins) : Nat := x.op * 67108864 + x.a * 4194304 + x.b * 262144 + x.c * 16384
def regs (x : Ins) : Prop := right (hasA x.op) x.a ∧ right (hasB x.op) x.b ∧ right (hasC x.op) x.c
instance (x : Ins) : Decidable (regs x) := by unfold regs; infer_instance
/-- the word, the error's number -/
def enc (x : Ins) : Nat × Nat :=
  if ¬ isOp x.op then (0, 16) else
  if ¬ regs x then (0, 1) else
  if hasC x.op then (if x.imm ≠ 0 then (0, 1) else (front x, 0))
  else if ¬ inR x.op x.imm then (0, 2) else (front x + (x.imm % 65536).toNat, 0)
def sign (op n : Nat) : Int := if uns op then n else if n ≤ 32767 then n else (n : Int) - 65536
def fields (w : Nat) : Ins :=
  let op := w / 67108864
  ⟨op, w / 4194304 % 16, w / 262144 % 16, if hasC op then w / 16384 % 16 else 0, if hasC op then 0 else sign op (w % 65536)⟩
def dec (w : Nat) : Ins × Bool := if enc (fields w) = (w, 0) then (fields w, true) else (zero, false)
theorem enc_lt (x : Ins) : (enc x).1 < 4294967296 := by
  unfold enc
  split
  · decide
  · split
    · decide
    · rename_i h1 h2
      simp only [Decidable.not_not] at h1 h2
      have h3 : x.op ≤ 31 := h1.2
      obtain ⟨ha, hb, hc⟩ := h2
      have a1 : x.a ≤ 15 := by rcases ha with h | h <;> omega
      have b1 : x.b ≤ 15 := by rcases hb with h | h <;> omega
      have c1 : x.c ≤ 15 := by rcases hc with h | h <;> omega
      split
      · split
        · decide
        · simp only [front]; omega
      · rename_i h4
        have c0 : x.c = 0 := by
          rcases hc with h | h
          · exact h
          · exact absurd h.1 h4
        split
        · decide
        · simp only [front]; omega
theorem enc_ok {x : Ins} {w : Nat} (h : enc x = (w, 0)) : isOp x.op ∧ regs x ∧ ((hasC x.op ∧ x.imm = 0 ∧ w = front x) ∨ (¬ hasC x.op ∧ inR x.op x.imm ∧ w = front x + (x.imm % 65536).toNat)) := by
  unfold enc at h
  split at h
  · cases h
  · rename_i h1
    split at h
    · cases h
    · rename_i h2
      simp only [Decidable.not_not] at h1 h2
      refine ⟨h1, h2, ?_⟩
      split at h
      · rename_i h3
        split at h
        · cases h
        · rename_i h4
          simp only [Decidable.not_not] at h4
          cases h
          exact .inl ⟨h3, h4, rfl⟩
      · rename_i h3
        split at h
        · cases h
        · rename_i h4
          simp only [Decidable.not_not] at h4
          cases h
          exact .inr ⟨h3, h4, rfl⟩
/-- the fields of an instruction's word are the instruction -/
theorem fields_enc {x : Ins} {w : Nat} (h : enc x = (w, 0)) : fields w = x := by
  obtain ⟨h1, ⟨ha, hb, hc⟩, h2⟩ := enc_ok h
  obtain ⟨op, a, b, c, imm⟩ := x
  simp only at *
  have a1 : a ≤ 15 := by rcases ha with h | h <;> omega
  have b1 : b ≤ 15 := by rcases hb with h | h <;> omega
  have c1 : c ≤ 15 := by rcases hc with h | h <;> omega
  rcases h2 with ⟨h3, h4, h5⟩ | ⟨h3, h4, h5⟩
  · have e : w / 67108864 = op := by simp only [front] at h5; omega
    simp only [fields, e, if_pos h3, front] at h5 ⊢
    rw [Ins.mk.injEq]
    refine ⟨rfl, ?_, ?_, ?_, h4.symm⟩ <;> omega
  · have c0 : c = 0 := by
      rcases hc with h | h
      · exact h
      · exact absurd h.1 h3
    have m0 : (imm % 65536).toNat < 65536 := by omega
    have e : w / 67108864 = op := by simp only [front] at h5; omega
    have em : w % 65536 = (imm % 65536).toNat := by simp only [front] at h5; omega
    simp only [fields, e, if_neg h3, front, em] at h5 ⊢
    rw [Ins.mk.injEq]
    refine ⟨rfl, by omega, by omega, c0.symm, ?_⟩
    unfold sign
    rcases h4 with ⟨u, h6, h7⟩ | ⟨u, h6, h7⟩
    · rw [if_pos u]; omega
    · rw [if_neg u]
      split <;> omega
theorem dec_enc {x : Ins} {w : Nat} (h : enc x = (w, 0)) : dec w = (x, true) := by
  have := fields_enc h
  unfold dec
  rw [this, if_pos h]
theorem dec_ok {w : Nat} (h : (dec w).2 = true) : enc (dec w).1 = (w, 0) := by
  unfold dec at h ⊢
  split at h
  · rename_i h1; rw [if_pos h1]; exact h1
  · cases h
theorem dec_no {w : Nat} (h : (dec w).2 = false) : (dec w).1 = zero := by
  unfold dec at h ⊢
  split at h
  · cases h
  · rename_i h1; rw [if_neg h1]
theorem shl_or (x n b k : Nat) (hk : k = x * 2 ^ n) (hb : b < 2 ^ n) : k ||| b = k + b := by
  rw [hk, ← Nat.shiftLeft_eq, ← Nat.shiftLeft_add_eq_or_of_lt hb]
theorem or_front (op a b c : Nat) (ha : a ≤ 15) (hb : b ≤ 15) (hc : c ≤ 15) : ((op * 67108864 ||| a * 4194304) ||| b * 262144) ||| c * 16384 = op * 67108864 + a * 4194304 + b * 262144 + c * 16384 := by
  rw [shl_or op 26 (a * 4194304) _ rfl (by omega)]
  rw [shl_or (op * 16 + a) 22 (b * 262144) _ (by omega) (by omega)]
  rw [shl_or ((op * 16 + a) * 16 + b) 18 (c * 16384) _ (by omega) (by omega)]
theorem or_imm (op a b m : Nat) (hm : m < 65536) : (op * 67108864 + a * 4194304 + b * 262144) ||| m = op * 67108864 + a * 4194304 + b * 262144 + m := by
  rw [shl_or (op * 256 + a * 16 + b) 18 m _ (by omega) (by omega)]
/-- what two numbers have unlike, where the same stands at either end -/
theorem xor_mid (h l x y n k : Nat) (hl : l < 2 ^ n) (hx : x < 2 ^ k) (hy : y < 2 ^ k) :
    (h * 2 ^ (n + k) + x * 2 ^ n + l) ^^^ (h * 2 ^ (n + k) + y * 2 ^ n + l) = (x ^^^ y) * 2 ^ n := by
  have e : ∀ z, z < 2 ^ k → h * 2 ^ (n + k) + z * 2 ^ n + l = (h <<< (n + k) ||| z <<< n) ||| l := fun z hz => by
    have h1 : z * 2 ^ n < 2 ^ (n + k) := by rw [Nat.pow_add, Nat.mul_comm (2 ^ n)]; exact Nat.mul_lt_mul_of_pos_right hz (Nat.pow_pos (by decide))
    rw [← shl_or ((h * 2 ^ k + z)) n l _ (by rw [Nat.pow_add, Nat.add_mul, Nat.mul_assoc, Nat.mul_comm (2 ^ k)]) hl, ← shl_or h (n + k) (z * 2 ^ n) _ rfl h1, Nat.shiftLeft_eq, Nat.shiftLeft_eq]
  rw [e x hx, e y hy]
  apply Nat.eq_of_testBit_eq
  intro i
  rw [← Nat.shiftLeft_eq, Nat.testBit_xor, Nat.testBit_or, Nat.testBit_or, Nat.testBit_or, Nat.testBit_or, Nat.testBit_shiftLeft, Nat.testBit_shiftLeft, Nat.testBit_shiftLeft, Nat.testBit_shiftLeft, Nat.testBit_xor]
  by_cases h1 : n ≤ i
  · have hl' : l.testBit i = false := Nat.testBit_lt_two_pow (Nat.lt_of_lt_of_le hl (Nat.pow_le_pow_right (by decide) h1))
    by_cases h2 : n + k ≤ i
    · have hx' : x.testBit (i - n) = false := Nat.testBit_lt_two_pow (Nat.lt_of_lt_of_le hx (Nat.pow_le_pow_right (by decide) (by omega)))
      have hy' : y.testBit (i - n) = false := Nat.testBit_lt_two_pow (Nat.lt_of_lt_of_le hy (Nat.pow_le_pow_right (by decide) (by omega)))
      simp [h1, hl', hx', hy']
    · simp [h1, h2, hl']
  · have h2 : ¬ n + k ≤ i := by omega
    simp [h1, h2]
end Is
