/-
  Plain mathematics, no program: the product of two bytes as the code reckons it and as the document's answer reckons it, both as sums (exclusive or) over bits; that it is a field's product.
-/
namespace Gf

/-- an additive step on numbers: conditional exclusive or -/
theorem cond_add (b b' : Bool) (y y' c : Nat) :
    (if (b ^^ b') = true then (y ^^^ y') ^^^ c else y ^^^ y') = (if b = true then y ^^^ c else y) ^^^ (if b' = true then y' ^^^ c else y') := by
  cases b <;> cases b' <;> simp
  · rw [Nat.xor_assoc]
  · rw [Nat.xor_assoc, Nat.xor_assoc, Nat.xor_comm y' c]
  · rw [Nat.xor_assoc y c, ← Nat.xor_assoc c y', Nat.xor_comm c y', Nat.xor_assoc y' c c, Nat.xor_self, Nat.xor_zero]

def stepA (a : Nat) : Nat := if a.testBit 7 = true then (a * 2 % 256) ^^^ 29 else a * 2 % 256
def ma (a : Nat) : Nat → Nat
  | 0 => a
  | k + 1 => stepA (ma a k)
def mp (a b : Nat) : Nat → Nat
  | 0 => 0
  | k + 1 => if b.testBit k = true then mp a b k ^^^ ma a k else mp a b k
/-- the product, as package field reckons it -/
def mul (a b : Nat) : Nat := mp a b 8

theorem stepA_yes {a : Nat} (h : a.testBit 7 = true) : stepA a = (a * 2 % 256) ^^^ 29 := by unfold stepA; rw [if_pos h]
theorem stepA_no {a : Nat} (h : a.testBit 7 = false) : stepA a = a * 2 % 256 := by unfold stepA; rw [if_neg (by simp [h])]
theorem mp_yes {a b k : Nat} (h : b.testBit k = true) : mp a b (k + 1) = mp a b k ^^^ ma a k := by rw [mp, if_pos h]
theorem mp_no {a b k : Nat} (h : b.testBit k = false) : mp a b (k + 1) = mp a b k := by rw [mp, if_neg (by simp [h])]
theorem stepA_lt (a : Nat) : stepA a < 256 := by
  unfold stepA
  split
  · exact Nat.xor_lt_two_pow (n := 8) (by omega) (by omega)
  · omega
theorem ma_lt (a : Nat) (h : a < 256) : ∀ k, ma a k < 256
  | 0 => h
  | _ + 1 => stepA_lt _
theorem mp_lt (a b : Nat) (h : a < 256) : ∀ k, mp a b k < 256
  | 0 => by simp [mp]
  | k + 1 => by
    unfold mp
    split
    · exact Nat.xor_lt_two_pow (n := 8) (mp_lt a b h k) (ma_lt a h k)
    · exact mp_lt a b h k
theorem mul_lt (a b : Nat) (h : a < 256) : mul a b < 256 := mp_lt a b h 8

theorem dbl_xor (a b : Nat) : (a ^^^ b) * 2 % 256 = (a * 2 % 256) ^^^ (b * 2 % 256) := by
  have e : ∀ x : Nat, x * 2 = x <<< 1 := fun x => by simp [Nat.shiftLeft_eq]
  rw [e, e, e, Nat.shiftLeft_xor_distrib]
  exact Nat.xor_mod_two_pow (n := 8)
theorem stepA_add (a b : Nat) : stepA (a ^^^ b) = stepA a ^^^ stepA b := by
  unfold stepA
  rw [Nat.testBit_xor, dbl_xor]
  exact cond_add _ _ _ _ _
theorem ma_add (a b : Nat) : ∀ k, ma (a ^^^ b) k = ma a k ^^^ ma b k
  | 0 => rfl
  | k + 1 => by simp only [ma, ma_add a b k, stepA_add]

theorem xor4 (a b c d : Nat) : (a ^^^ b) ^^^ (c ^^^ d) = (a ^^^ c) ^^^ (b ^^^ d) := by
  rw [Nat.xor_assoc, ← Nat.xor_assoc b, Nat.xor_comm b c, Nat.xor_assoc c, ← Nat.xor_assoc]
theorem mp_add_left (a b c : Nat) : ∀ k, mp (a ^^^ b) c k = mp a c k ^^^ mp b c k
  | 0 => by simp [mp]
  | k + 1 => by
    simp only [mp, mp_add_left a b c k, ma_add]
    split
    · exact xor4 _ _ _ _
    · rfl
theorem mp_add_right (a b c : Nat) : ∀ k, mp a (b ^^^ c) k = mp a b k ^^^ mp a c k
  | 0 => by simp [mp]
  | k + 1 => by
    simp only [mp, mp_add_right a b c k, Nat.testBit_xor]
    exact cond_add _ _ _ _ _
theorem mul_add_left (a b c : Nat) : mul (a ^^^ b) c = mul a c ^^^ mul b c := mp_add_left a b c 8
theorem mul_add_right (a b c : Nat) : mul a (b ^^^ c) = mul a b ^^^ mul a c := mp_add_right a b c 8

/-- what is additive is told by its values at the eight powers of 2 -/
def comb (f : Nat → Nat) (x : Nat) : Nat :=
  (if x.testBit 0 = true then f 1 else 0) ^^^ ((if x.testBit 1 = true then f 2 else 0) ^^^ ((if x.testBit 2 = true then f 4 else 0) ^^^ ((if x.testBit 3 = true then f 8 else 0) ^^^
  ((if x.testBit 4 = true then f 16 else 0) ^^^ ((if x.testBit 5 = true then f 32 else 0) ^^^ ((if x.testBit 6 = true then f 64 else 0) ^^^ (if x.testBit 7 = true then f 128 else 0)))))))
theorem comb_id : ∀ x, x < 256 → comb (fun x => x) x = x := by decide +kernel
theorem of_comb (f : Nat → Nat) (h0 : f 0 = 0) (h : ∀ a b, f (a ^^^ b) = f a ^^^ f b) (x : Nat) (hx : x < 256) : f x = comb f x := by
  have p : ∀ (b : Bool) (n : Nat), f (if b = true then n else 0) = if b = true then f n else 0 := by
    intro b n; cases b <;> simp [h0]
  have e := congrArg f (comb_id x hx)
  unfold comb at e
  simp only [h, p] at e
  exact e.symm
theorem ext_add (f g : Nat → Nat) (f0 : f 0 = 0) (g0 : g 0 = 0) (hf : ∀ a b, f (a ^^^ b) = f a ^^^ f b) (hg : ∀ a b, g (a ^^^ b) = g a ^^^ g b)
    (h : ∀ i, i < 8 → f (2 ^ i) = g (2 ^ i)) (x : Nat) (hx : x < 256) : f x = g x := by
  rw [of_comb f f0 hf x hx, of_comb g g0 hg x hx]
  unfold comb
  have e0 := h 0 (by omega); have e1 := h 1 (by omega); have e2 := h 2 (by omega); have e3 := h 3 (by omega)
  have e4 := h 4 (by omega); have e5 := h 5 (by omega); have e6 := h 6 (by omega); have e7 := h 7 (by omega)
  simp only [Nat.reducePow] at e0 e1 e2 e3 e4 e5 e6 e7
  rw [e0, e1, e2, e3, e4, e5, e6, e7]

theorem mul_zero (a : Nat) : mul a 0 = 0 := by simp [mul, mp]
theorem zero_mul (b : Nat) : mul 0 b = 0 := by
  have h := mul_add_left 0 0 b
  rw [Nat.xor_self, Nat.xor_self] at h
  exact h
theorem mul_comm (a b : Nat) (ha : a < 256) (hb : b < 256) : mul a b = mul b a := by
  refine ext_add (fun x => mul x b) (fun x => mul b x) (zero_mul _) (mul_zero _) (fun x y => mul_add_left x y b) (fun x y => mul_add_right b x y) (fun i hi => ?_) a ha
  refine ext_add (fun y => mul (2 ^ i) y) (fun y => mul y (2 ^ i)) (mul_zero _) (zero_mul _) (fun x y => mul_add_right _ x y) (fun x y => mul_add_left x y _) (fun j hj => ?_) b hb
  have d : ∀ i, i < 8 → ∀ j, j < 8 → mul (2 ^ i) (2 ^ j) = mul (2 ^ j) (2 ^ i) := by decide +kernel
  exact d i hi j hj
theorem mul_assoc (a b c : Nat) (ha : a < 256) (hb : b < 256) (hc : c < 256) : mul (mul a b) c = mul a (mul b c) := by
  refine ext_add (fun x => mul (mul x b) c) (fun x => mul x (mul b c)) (by simp only [zero_mul]) (zero_mul _) (fun x y => by simp only [mul_add_left]) (fun x y => mul_add_left x y _) (fun i hi => ?_) a ha
  refine ext_add (fun y => mul (mul (2 ^ i) y) c) (fun y => mul (2 ^ i) (mul y c)) (by simp only [mul_zero, zero_mul]) (by simp only [zero_mul, mul_zero]) (fun x y => by simp only [mul_add_right, mul_add_left]) (fun x y => by simp only [mul_add_left, mul_add_right]) (fun j hj => ?_) b hb
  refine ext_add (fun z => mul (mul (2 ^ i) (2 ^ j)) z) (fun z => mul (2 ^ i) (mul (2 ^ j) z)) (mul_zero _) (by simp only [mul_zero]) (fun x y => mul_add_right _ x y) (fun x y => by simp only [mul_add_right]) (fun k hk => ?_) c hc
  have d : ∀ i, i < 8 → ∀ j, j < 8 → ∀ k, k < 8 → mul (mul (2 ^ i) (2 ^ j)) (2 ^ k) = mul (2 ^ i) (mul (2 ^ j) (2 ^ k)) := by decide +kernel
  exact d i hi j hj k hk
theorem mul_one (a : Nat) (ha : a < 256) : mul a 1 = a := by
  have d : ∀ a, a < 256 → mul a 1 = a := by decide +kernel
  exact d a ha

/-- what gives 1 with it, as package field reckons it: the square-and-multiply of 254 -/
def ip (a : Nat) : Nat → Nat × Nat
  | 0 => (1, a)
  | k + 1 => (if (254).testBit k = true then mul (ip a k).1 (ip a k).2 else (ip a k).1, mul (ip a k).2 (ip a k).2)
def inv (a : Nat) : Nat := (ip a 8).1
theorem ip_yes {a k : Nat} (h : (254).testBit k = true) : (ip a (k + 1)).1 = mul (ip a k).1 (ip a k).2 := by rw [ip, if_pos h]
theorem ip_no {a k : Nat} (h : (254).testBit k = false) : (ip a (k + 1)).1 = (ip a k).1 := by rw [ip, if_neg (by simp [h])]
theorem ip_lt (a : Nat) (h : a < 256) : ∀ k, (ip a k).1 < 256 ∧ (ip a k).2 < 256
  | 0 => ⟨by simp [ip], h⟩
  | k + 1 => by
    have := ip_lt a h k
    unfold ip
    refine ⟨?_, mul_lt _ _ this.2⟩
    show (if (254).testBit k = true then mul (ip a k).1 (ip a k).2 else (ip a k).1) < 256
    split
    · exact mul_lt _ _ this.1
    · exact this.1
theorem inv_lt (a : Nat) (h : a < 256) : inv a < 256 := (ip_lt a h 8).1
theorem mul_inv (a : Nat) (ha : a < 256) (h0 : a ≠ 0) : mul a (inv a) = 1 := by
  have d : ∀ a, a < 256 → a ≠ 0 → mul a (inv a) = 1 := by decide +kernel
  exact d a ha h0
theorem inv_zero : inv 0 = 0 := by decide +kernel
theorem inv_unique (a b : Nat) (ha : a < 256) (hb : b < 256) (h : mul a b = 1) : b = inv a := by
  have h0 : a ≠ 0 := by rintro rfl; rw [zero_mul] at h; omega
  have hi := inv_lt a ha
  calc b = mul b 1 := (mul_one b hb).symm
    _ = mul b (mul a (inv a)) := by rw [mul_inv a ha h0]
    _ = mul (mul b a) (inv a) := (mul_assoc b a _ hb ha hi).symm
    _ = mul 1 (inv a) := by rw [mul_comm b a hb ha, h]
    _ = mul (inv a) 1 := mul_comm _ _ (by omega) hi
    _ = inv a := mul_one _ hi
theorem no_zero (a b : Nat) (ha : a < 256) (hb : b < 256) (h0 : a ≠ 0) (hb0 : b ≠ 0) : mul a b ≠ 0 := by
  intro h
  have e : mul (inv a) (mul a b) = b := by
    rw [← mul_assoc _ _ _ (inv_lt a ha) ha hb, mul_comm (inv a) a (inv_lt a ha) ha, mul_inv a ha h0, mul_comm 1 b (by omega) hb, mul_one b hb]
  rw [h, mul_zero] at e
  exact hb0 e.symm
theorem inv_inv (a : Nat) (ha : a < 256) (h0 : a ≠ 0) : inv (inv a) = a :=
  (inv_unique (inv a) a (inv_lt a ha) ha (by rw [mul_comm _ _ (inv_lt a ha) ha]; exact mul_inv a ha h0)).symm

/-- the document's answer: the product of polynomials, then the rest by 285 -/
def rx (a b : Nat) : Nat → Nat
  | 0 => 0
  | k + 1 => if b.testBit k = true then rx a b k ^^^ a * 2 ^ k else rx a b k
def rr (x : Nat) : Nat → Nat
  | 0 => x
  | k + 1 => if (rr x k).testBit (14 - k) = true then rr x k ^^^ 285 * 2 ^ (6 - k) else rr x k
def rmul (a b : Nat) : Nat := rr (rx a b 8) 7 % 256
theorem rx_yes {a b k : Nat} (h : b.testBit k = true) : rx a b (k + 1) = rx a b k ^^^ a * 2 ^ k := by rw [rx, if_pos h]
theorem rx_no {a b k : Nat} (h : b.testBit k = false) : rx a b (k + 1) = rx a b k := by rw [rx, if_neg (by simp [h])]
theorem rr_yes {x k : Nat} (h : (rr x k).testBit (14 - k) = true) : rr x (k + 1) = rr x k ^^^ 285 * 2 ^ (6 - k) := by rw [rr, if_pos h]
theorem rr_no {x k : Nat} (h : (rr x k).testBit (14 - k) = false) : rr x (k + 1) = rr x k := by rw [rr, if_neg (by simp [h])]
theorem rx_lt (a b : Nat) (ha : a < 256) : ∀ k, k ≤ 8 → rx a b k < 65536
  | 0, _ => by simp [rx]
  | k + 1, h => by
    unfold rx
    split
    · refine Nat.xor_lt_two_pow (n := 16) (rx_lt a b ha k (by omega)) ?_
      calc a * 2 ^ k < 256 * 2 ^ k := Nat.mul_lt_mul_of_pos_right ha (Nat.pow_pos (by omega))
        _ ≤ 256 * 2 ^ 8 := Nat.mul_le_mul_left _ (Nat.pow_le_pow_right (by omega) (by omega))
        _ = 2 ^ 16 := by decide
    · exact rx_lt a b ha k (by omega)
theorem rr_lt (x : Nat) (hx : x < 65536) : ∀ k, rr x k < 65536
  | 0 => hx
  | k + 1 => by
    unfold rr
    split
    · refine Nat.xor_lt_two_pow (n := 16) (rr_lt x hx k) ?_
      calc 285 * 2 ^ (6 - k) ≤ 285 * 2 ^ 6 := Nat.mul_le_mul_left _ (Nat.pow_le_pow_right (by omega) (by omega))
        _ < 2 ^ 16 := by decide
    · exact rr_lt x hx k
theorem rx_add_right (a b c : Nat) : ∀ k, rx a (b ^^^ c) k = rx a b k ^^^ rx a c k
  | 0 => by simp [rx]
  | k + 1 => by
    simp only [rx, rx_add_right a b c k, Nat.testBit_xor]
    exact cond_add _ _ _ _ _
theorem mul_pow_xor (a b k : Nat) : (a ^^^ b) * 2 ^ k = a * 2 ^ k ^^^ b * 2 ^ k := by
  rw [← Nat.shiftLeft_eq, ← Nat.shiftLeft_eq, ← Nat.shiftLeft_eq, Nat.shiftLeft_xor_distrib]
theorem rx_add_left (a b c : Nat) : ∀ k, rx (a ^^^ b) c k = rx a c k ^^^ rx b c k
  | 0 => by simp [rx]
  | k + 1 => by
    simp only [rx, rx_add_left a b c k, mul_pow_xor]
    split
    · exact xor4 _ _ _ _
    · rfl
theorem rr_add (x y : Nat) : ∀ k, rr (x ^^^ y) k = rr x k ^^^ rr y k
  | 0 => rfl
  | k + 1 => by
    simp only [rr, rr_add x y k, Nat.testBit_xor]
    exact cond_add _ _ _ _ _
theorem rmul_add_left (a b c : Nat) : rmul (a ^^^ b) c = rmul a c ^^^ rmul b c := by
  unfold rmul
  rw [rx_add_left, rr_add]
  exact Nat.xor_mod_two_pow (n := 8)
theorem rmul_add_right (a b c : Nat) : rmul a (b ^^^ c) = rmul a b ^^^ rmul a c := by
  unfold rmul
  rw [rx_add_right, rr_add]
  exact Nat.xor_mod_two_pow (n := 8)
theorem rmul_zero (a : Nat) : rmul a 0 = 0 := by
  have h := rmul_add_right a 0 0
  rw [Nat.xor_self, Nat.xor_self] at h
  exact h
theorem zero_rmul (a : Nat) : rmul 0 a = 0 := by
  have h := rmul_add_left 0 0 a
  rw [Nat.xor_self, Nat.xor_self] at h
  exact h
theorem rmul_eq (a b : Nat) (ha : a < 256) (hb : b < 256) : rmul a b = mul a b := by
  refine ext_add (fun x => rmul x b) (fun x => mul x b) (zero_rmul _) (zero_mul _) (fun x y => rmul_add_left x y b) (fun x y => mul_add_left x y b) (fun i hi => ?_) a ha
  refine ext_add (fun y => rmul (2 ^ i) y) (fun y => mul (2 ^ i) y) (rmul_zero _) (mul_zero _) (fun x y => rmul_add_right _ x y) (fun x y => mul_add_right _ x y) (fun j hj => ?_) b hb
  have d : ∀ i, i < 8 → ∀ j, j < 8 → rmul (2 ^ i) (2 ^ j) = mul (2 ^ i) (2 ^ j) := by decide +kernel
  exact d i hi j hj

end Gf
