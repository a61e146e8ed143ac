/-
  Plain mathematics, no program: lengths in bytes, rows of texts as bytes, and what bytes are read as.
-/
set_option linter.unusedVariables false
set_option linter.unusedSimpArgs false
set_option maxRecDepth 100000
namespace Nu

/-- a length in bytes -/
def lenB (n : Nat) : List UInt8 := if n < 128 then [UInt8.ofNat n] else UInt8.ofNat (n % 128 + 128) :: lenB (n / 128)
termination_by n
decreasing_by omega
theorem lenB_small {n : Nat} (h : n < 128) : lenB n = [UInt8.ofNat n] := by rw [lenB, if_pos h]
theorem lenB_great {n : Nat} (h : ¬ n < 128) : lenB n = UInt8.ofNat (n % 128 + 128) :: lenB (n / 128) := by rw [lenB, if_neg h]
theorem toNat_ofNat {n : Nat} (h : n < 256) : (UInt8.ofNat n).toNat = n := by simp; omega
theorem lenB_pos (n : Nat) : 0 < (lenB n).length := by
  by_cases h : n < 128
  · simp [lenB_small h]
  · simp [lenB_great h]

/-- a row as bytes -/
def rowB (l : List (List UInt8)) : List UInt8 := l.flatMap fun s => lenB s.length ++ s
theorem rowB_nil : rowB [] = [] := rfl
theorem rowB_cons (s : List UInt8) (l : List (List UInt8)) : rowB (s :: l) = lenB s.length ++ s ++ rowB l := by simp [rowB]
theorem rowB_append (a b : List (List UInt8)) : rowB (a ++ b) = rowB a ++ rowB b := by simp [rowB]
theorem rowB_snoc (a : List (List UInt8)) (s : List UInt8) : rowB (a ++ [s]) = rowB a ++ (lenB s.length ++ s) := by simp [rowB]

/-- what a length is read as: the number, how many bytes, the error (3: form, 4: short) -/
def gl : Nat → Nat → Nat → List UInt8 → Nat × Nat × Nat
  | 0, _, _, _ => (0, 0, 3)
  | _ + 1, _, _, [] => (0, 0, 4)
  | f + 1, i, n, c :: t =>
    if 128 ≤ c.toNat then gl f (i + 1) (n + c.toNat % 128 * 128 ^ i) t
    else if c.toNat = 0 ∧ 0 < i then (0, 0, 3) else (n + c.toNat % 128 * 128 ^ i, i + 1, 0)
def glen (b : List UInt8) : Nat × Nat × Nat := gl 4 0 0 b
theorem gl_more {f i n : Nat} {c : UInt8} {t : List UInt8} (h : 128 ≤ c.toNat) : gl (f + 1) i n (c :: t) = gl f (i + 1) (n + c.toNat % 128 * 128 ^ i) t := by rw [gl, if_pos h]
theorem gl_form {f i n : Nat} {c : UInt8} {t : List UInt8} (h : c.toNat = 0) (hi : 0 < i) : gl (f + 1) i n (c :: t) = (0, 0, 3) := by rw [gl, if_neg (by omega), if_pos ⟨h, hi⟩]
theorem gl_last {f i n : Nat} {c : UInt8} {t : List UInt8} (h : c.toNat < 128) (hi : ¬ (c.toNat = 0 ∧ 0 < i)) : gl (f + 1) i n (c :: t) = (n + c.toNat % 128 * 128 ^ i, i + 1, 0) := by rw [gl, if_neg (by omega), if_neg hi]

/-- a length, as it is written, is read as itself -/
theorem gl_lenB : ∀ (f i n m : Nat) (t : List UInt8), m < 128 ^ f → (i = 0 ∧ 0 < f ∨ 0 < m) → gl f i n (lenB m ++ t) = (n + m * 128 ^ i, i + (lenB m).length, 0)
  | 0, i, n, m, t, hm, h0 => by
    have : m = 0 := by simpa using hm
    omega
  | f + 1, i, n, m, t, hm, h0 => by
    by_cases h : m < 128
    · have e : (UInt8.ofNat m).toNat = m := toNat_ofNat (by omega)
      rw [lenB_small h, List.singleton_append, gl_last (by rw [e]; exact h) (by rw [e]; omega), e, Nat.mod_eq_of_lt h]
      rfl
    · have e : (UInt8.ofNat (m % 128 + 128)).toNat = m % 128 + 128 := toNat_ofNat (by omega)
      rw [lenB_great h, List.cons_append, gl_more (by rw [e]; omega), e, gl_lenB f (i + 1) _ (m / 128) t (by
        rw [Nat.pow_succ] at hm
        exact Nat.div_lt_of_lt_mul (by rw [Nat.mul_comm]; exact hm)) (.inr (by omega))]
      have e2 : (m % 128 + 128) % 128 = m % 128 := by omega
      rw [e2]
      refine Prod.ext ?_ (Prod.ext ?_ rfl)
      · show n + m % 128 * 128 ^ i + m / 128 * 128 ^ (i + 1) = n + m * 128 ^ i
        rw [Nat.pow_succ, Nat.mul_comm (128 ^ i) 128, ← Nat.mul_assoc, Nat.add_assoc, ← Nat.add_mul]
        congr 2
        omega
      · show i + 1 + (lenB (m / 128)).length = i + (UInt8.ofNat (m % 128 + 128) :: lenB (m / 128)).length
        simp; omega
theorem glen_lenB (m : Nat) (t : List UInt8) (hm : m < 268435456) : glen (lenB m ++ t) = (m, (lenB m).length, 0) := by
  unfold glen
  rw [gl_lenB 4 0 0 m t hm (.inl ⟨rfl, by omega⟩)]
  simp
/-- what is read as a length is one, as it is written -/
theorem gl_ok : ∀ (f i n : Nat) (b : List UInt8) (N S : Nat), gl f i n b = (N, S, 0) → ∃ m t, b = lenB m ++ t ∧ N = n + m * 128 ^ i ∧ S = i + (lenB m).length ∧ (i = 0 ∨ 0 < m) ∧ m < 128 ^ f
  | 0, i, n, b, N, S, h => by simp [gl] at h
  | f + 1, i, n, [], N, S, h => by simp [gl] at h
  | f + 1, i, n, c :: t, N, S, h => by
    have hc : c.toNat < 256 := c.toNat_lt
    by_cases h1 : 128 ≤ c.toNat
    · rw [gl_more h1] at h
      obtain ⟨m, t', e1, e2, e3, e4, e5⟩ := gl_ok f (i + 1) _ t N S h
      have hm : 0 < m := by omega
      have a1 : ¬ c.toNat % 128 + m * 128 < 128 := by omega
      have a2 : (c.toNat % 128 + m * 128) % 128 = c.toNat % 128 := by omega
      have a3 : (c.toNat % 128 + m * 128) / 128 = m := by omega
      have a4 : UInt8.ofNat (c.toNat % 128 + 128) = c := by
        rw [show c.toNat % 128 + 128 = c.toNat from by omega]; exact UInt8.ofNat_toNat
      refine ⟨c.toNat % 128 + m * 128, t', ?_, ?_, ?_, .inr (by omega), ?_⟩
      · rw [lenB_great a1, a2, a3, a4, e1]; rfl
      · rw [e2, Nat.pow_succ, Nat.mul_comm (128 ^ i) 128, ← Nat.mul_assoc, Nat.add_assoc, ← Nat.add_mul]
      · rw [lenB_great a1, a3, e3]; simp; omega
      · rw [Nat.pow_succ]
        have : m + 1 ≤ 128 ^ f := e5
        omega
    · by_cases h2 : c.toNat = 0 ∧ 0 < i
      · rw [gl_form h2.1 h2.2] at h
        simp at h
      · rw [gl_last (by omega) h2] at h
        simp only [Prod.mk.injEq] at h
        obtain ⟨h3, h4, _⟩ := h
        refine ⟨c.toNat, t, ?_, ?_, ?_, by omega, ?_⟩
        · rw [lenB_small (by omega), UInt8.ofNat_toNat]; rfl
        · rw [← h3, Nat.mod_eq_of_lt (by omega)]
        · rw [← h4, lenB_small (by omega)]; rfl
        · have : 128 ^ 1 ≤ 128 ^ (f + 1) := Nat.pow_le_pow_right (by omega) (by omega)
          omega
theorem glen_ok {b : List UInt8} (h : (glen b).2.2 = 0) : ∃ m t, b = lenB m ++ t ∧ (glen b).1 = m ∧ (glen b).2.1 = (lenB m).length ∧ m < 268435456 := by
  obtain ⟨m, t, e1, e2, e3, _, e5⟩ := gl_ok 4 0 0 b (glen b).1 (glen b).2.1 (by show glen b = _; exact Prod.ext rfl (Prod.ext rfl h))
  exact ⟨m, t, e1, by simpa using e2, by simpa using e3, e5⟩
theorem gl_err (f i n : Nat) (b : List UInt8) : (gl f i n b).2.2 = 0 ∨ ((gl f i n b) = (0, 0, 3) ∨ gl f i n b = (0, 0, 4)) := by
  induction f generalizing i n b with
  | zero => exact .inr (.inl rfl)
  | succ f ih =>
    rcases b with _ | ⟨c, t⟩
    · exact .inr (.inr rfl)
    · by_cases h1 : 128 ≤ c.toNat
      · rw [gl_more h1]; exact ih _ _ _
      · by_cases h2 : c.toNat = 0 ∧ 0 < i
        · rw [gl_form h2.1 h2.2]; exact .inr (.inl rfl)
        · rw [gl_last (by omega) h2]; exact .inl rfl
/-- a length that is cut short -/
theorem gl_cut : ∀ (f i n m k : Nat), m < 128 ^ f → 0 < f → k < (lenB m).length → gl f i n ((lenB m).take k) = (0, 0, 4)
  | 0, _, _, _, _, _, h, _ => by omega
  | f + 1, i, n, m, 0, _, _, _ => by rw [List.take_zero]; rfl
  | f + 1, i, n, m, k + 1, hm, _, hk => by
    by_cases h : m < 128
    · rw [lenB_small h] at hk; simp at hk
    · have e : (UInt8.ofNat (m % 128 + 128)).toNat = m % 128 + 128 := toNat_ofNat (by omega)
      rw [lenB_great h] at hk ⊢
      rw [List.take_succ_cons, gl_more (by rw [e]; omega)]
      have hm' : m / 128 < 128 ^ f := by
        rw [Nat.pow_succ] at hm
        exact Nat.div_lt_of_lt_mul (by rw [Nat.mul_comm]; exact hm)
      refine gl_cut f (i + 1) _ (m / 128) k hm' ?_ (by simpa using hk)
      rcases Nat.eq_zero_or_pos f with h0 | h0
      · subst h0; simp at hm'; omega
      · exact h0

/-- what bytes are read as, behind texts that were read: the texts, the error -/
def txA : Nat → List (List UInt8) → List UInt8 → List (List UInt8) × Nat
  | 0, acc, _ => (acc, 0)
  | f + 1, acc, b =>
    if b = [] then (acc, 0)
    else if (glen b).2.2 ≠ 0 then ([], (glen b).2.2)
    else if (b.drop (glen b).2.1).length < (glen b).1 then ([], 4)
    else txA f (acc ++ [(b.drop (glen b).2.1).take (glen b).1]) ((b.drop (glen b).2.1).drop (glen b).1)
def texts (b : List UInt8) : List (List UInt8) × Nat := txA (b.length + 1) [] b
theorem txA_nil {f : Nat} {acc : List (List UInt8)} (hf : 0 < f) : txA f acc [] = (acc, 0) := by
  obtain ⟨f, rfl⟩ : ∃ k, f = k + 1 := ⟨f - 1, by omega⟩
  rw [txA, if_pos rfl]
theorem txA_err {f : Nat} {acc : List (List UInt8)} {b : List UInt8} (hf : 0 < f) (hb : b ≠ []) (h : (glen b).2.2 ≠ 0) : txA f acc b = ([], (glen b).2.2) := by
  obtain ⟨f, rfl⟩ : ∃ k, f = k + 1 := ⟨f - 1, by omega⟩
  rw [txA, if_neg hb, if_pos h]
theorem txA_short {f : Nat} {acc : List (List UInt8)} {b : List UInt8} (hf : 0 < f) (hb : b ≠ []) (h : (glen b).2.2 = 0) (h2 : (b.drop (glen b).2.1).length < (glen b).1) : txA f acc b = ([], 4) := by
  obtain ⟨f, rfl⟩ : ∃ k, f = k + 1 := ⟨f - 1, by omega⟩
  rw [txA, if_neg hb, if_neg (by omega), if_pos h2]
theorem txA_next {f : Nat} {acc : List (List UInt8)} {b : List UInt8} (hb : b ≠ []) (h : (glen b).2.2 = 0) (h2 : ¬ (b.drop (glen b).2.1).length < (glen b).1) :
    txA (f + 1) acc b = txA f (acc ++ [(b.drop (glen b).2.1).take (glen b).1]) ((b.drop (glen b).2.1).drop (glen b).1) := by
  rw [txA, if_neg hb, if_neg (by omega), if_neg h2]
theorem drop_lenB (m : Nat) (t : List UInt8) : (lenB m ++ t).drop (lenB m).length = t := by simp
theorem lenB_ne (m : Nat) (t : List UInt8) : lenB m ++ t ≠ [] := by
  intro h
  have h1 := congrArg List.length h
  have h2 := lenB_pos m
  rw [List.length_append, List.length_nil] at h1
  omega
theorem tx_row : ∀ (l : List (List UInt8)) (acc : List (List UInt8)) (f : Nat), (∀ s ∈ l, s.length < 268435456) → (rowB l).length < f → txA f acc (rowB l) = (acc ++ l, 0)
  | [], acc, f, _, hf => by rw [rowB_nil, txA_nil (by omega), List.append_nil]
  | s :: l, acc, f, hl, hf => by
    obtain ⟨f, rfl⟩ : ∃ k, f = k + 1 := ⟨f - 1, by omega⟩
    have hs := hl s List.mem_cons_self
    rw [rowB_cons, List.append_assoc] at hf ⊢
    have e := glen_lenB s.length (s ++ rowB l) hs
    rw [txA_next (lenB_ne _ _) (by rw [e]) (by rw [e]; simp)]
    rw [e]
    simp only [List.take_left, List.drop_left]
    rw [tx_row l _ f (fun x hx => hl x (List.mem_cons_of_mem _ hx)) (by have := lenB_pos s.length; simp at hf; omega)]
    simp
theorem texts_row {l : List (List UInt8)} (h : ∀ s ∈ l, s.length < 268435456) : texts (rowB l) = (l, 0) := by
  unfold texts
  rw [tx_row l [] _ h (by omega)]
  rfl
theorem tx_ok : ∀ (f : Nat) (acc : List (List UInt8)) (b : List UInt8) (L : List (List UInt8)), b.length < f → txA f acc b = (L, 0) → ∃ l, L = acc ++ l ∧ rowB l = b
  | 0, _, _, _, h, _ => by omega
  | f + 1, acc, b, L, hf, h => by
    by_cases hb : b = []
    · subst hb
      rw [txA_nil (by omega)] at h
      simp only [Prod.mk.injEq] at h
      exact ⟨[], by simp [h.1], rfl⟩
    · by_cases h1 : (glen b).2.2 = 0
      · by_cases h2 : (b.drop (glen b).2.1).length < (glen b).1
        · rw [txA_short (by omega) hb h1 h2] at h
          simp at h
        · rw [txA_next hb h1 h2] at h
          obtain ⟨m, t, e1, e2, e3, _⟩ := glen_ok h1
          rw [e2, e3] at h h2
          have hd : b.drop (lenB m).length = t := by rw [e1]; exact drop_lenB m t
          rw [hd] at h h2
          have hlt := lenB_pos m
          have hlen : b.length = (lenB m).length + t.length := by rw [e1]; simp
          obtain ⟨l, h3, h4⟩ := tx_ok f _ _ L (by simp; omega) h
          refine ⟨t.take m :: l, by rw [h3]; simp, ?_⟩
          rw [rowB_cons, h4, List.length_take, Nat.min_eq_left (by omega), List.append_assoc, List.take_append_drop, e1]
      · rw [txA_err (by omega) hb h1] at h
        simp only [Prod.mk.injEq] at h
        exact absurd h.2 h1
theorem texts_ok {b : List UInt8} {L : List (List UInt8)} (h : texts b = (L, 0)) : rowB L = b := by
  obtain ⟨l, h1, h2⟩ := tx_ok _ [] b L (by omega) h
  rw [h1, List.nil_append]; exact h2
theorem rowB_inj {a b : List (List UInt8)} (ha : ∀ s ∈ a, s.length < 268435456) (hb : ∀ s ∈ b, s.length < 268435456) (h : rowB a = rowB b) : a = b := by
  have e1 := texts_row ha
  have e2 := texts_row hb
  rw [h, e2] at e1
  simp only [Prod.mk.injEq] at e1
  exact e1.1.symm
theorem tx_cut : ∀ (l : List (List UInt8)) (acc : List (List UInt8)) (f c : Nat), (∀ s ∈ l, s.length < 268435456) → c < (rowB l).length → c < f →
    txA f acc ((rowB l).take c) = ([], 4) ∨ ∃ l', txA f acc ((rowB l).take c) = (acc ++ l', 0) ∧ l'.length < l.length
  | [], _, _, _, _, h, _ => by simp [rowB_nil] at h
  | s :: l, acc, f, c, hl, hc, hf => by
    have hs := hl s List.mem_cons_self
    obtain ⟨f, rfl⟩ : ∃ k, f = k + 1 := ⟨f - 1, by omega⟩
    have hp := lenB_pos s.length
    rw [rowB_cons, List.append_assoc] at hc ⊢
    rcases Nat.eq_zero_or_pos c with h0 | h0
    · subst h0
      exact .inr ⟨[], by rw [List.take_zero, txA_nil (by omega), List.append_nil], by simp⟩
    · by_cases h1 : c < (lenB s.length).length
      · have e : (lenB s.length ++ (s ++ rowB l)).take c = (lenB s.length).take c := by rw [List.take_append_of_le_length (by omega)]
        have g : glen ((lenB s.length).take c) = (0, 0, 4) := gl_cut 4 0 0 s.length c hs (by omega) h1
        rw [e, txA_err (by omega) (by intro h; have h3 := congrArg List.length h; rw [List.length_take, List.length_nil] at h3; omega) (by rw [g]; simp), g]
        exact .inl rfl
      · have e : (lenB s.length ++ (s ++ rowB l)).take c = lenB s.length ++ (s ++ rowB l).take (c - (lenB s.length).length) := by
          rw [List.take_append, List.take_of_length_le (by omega)]
        have g := glen_lenB s.length ((s ++ rowB l).take (c - (lenB s.length).length)) hs
        rw [e]
        by_cases h2 : c - (lenB s.length).length < s.length
        · rw [txA_short (by omega) (lenB_ne _ _) (by rw [g]) (by rw [g]; simp only [drop_lenB]; simp; omega)]
          exact .inl rfl
        · rw [txA_next (lenB_ne _ _) (by rw [g]) (by rw [g]; simp only [drop_lenB]; simp; omega), g]
          simp only [drop_lenB]
          have e2 : (s ++ rowB l).take (c - (lenB s.length).length) = s ++ (rowB l).take (c - (lenB s.length).length - s.length) := by
            rw [List.take_append, List.take_of_length_le (by omega)]
          rw [e2, List.take_left, List.drop_left]
          rcases tx_cut l (acc ++ [s]) f (c - (lenB s.length).length - s.length) (fun x hx => hl x (List.mem_cons_of_mem _ hx)) (by simp at hc; omega) (by omega) with h3 | ⟨l', h3, h4⟩
          · exact .inl h3
          · exact .inr ⟨s :: l', by rw [h3]; simp, by simp; omega⟩
theorem texts_cut {l : List (List UInt8)} {c : Nat} (h : ∀ s ∈ l, s.length < 268435456) (hc : c < (rowB l).length) :
    texts ((rowB l).take c) = ([], 4) ∨ ∃ l', texts ((rowB l).take c) = (l', 0) ∧ l'.length < l.length := by
  unfold texts
  have := tx_cut l [] (((rowB l).take c).length + 1) c h hc (by simp; omega)
  simpa using this
end Nu
