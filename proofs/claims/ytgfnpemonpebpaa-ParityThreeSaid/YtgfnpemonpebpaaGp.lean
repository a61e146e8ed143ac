/-
  Plain mathematics, no program: a polynomial of n coefficients, not all 0, has fewer than n zeros; the polynomial through n points takes their values, and is told by them.
-/
import Derived.Test.YtgfnpemonpebpaaGl
namespace Gf

theorem xor_cancel {a b : Nat} (h : a ^^^ b = 0) : a = b := by
  have e : (a ^^^ b) ^^^ b = a := by rw [Nat.xor_assoc, Nat.xor_self, Nat.xor_zero]
  rw [h, Nat.zero_xor] at e
  exact e.symm
theorem xor_ne {a b : Nat} (h : a ≠ b) : a ^^^ b ≠ 0 := fun e => h (xor_cancel e)

/-- the quotient by (x - a) -/
def quo (a : Nat) : List Nat → List Nat
  | [] => []
  | [_] => []
  | _ :: d :: t => ev (d :: t) a :: quo a (d :: t)
theorem quo_length (a : Nat) : ∀ l, (quo a l).length = l.length - 1
  | [] => rfl
  | [_] => rfl
  | _ :: d :: t => by simp [quo, quo_length a (d :: t)]
theorem Bytes.tail {c : Nat} {t : List Nat} (h : Bytes (c :: t)) : Bytes t := fun y hy => h y (List.mem_cons_of_mem _ hy)
theorem Bytes.head {c : Nat} {t : List Nat} (h : Bytes (c :: t)) : c < 256 := h c List.mem_cons_self
theorem Bytes.cons {c : Nat} {t : List Nat} (hc : c < 256) (h : Bytes t) : Bytes (c :: t) := fun y hy => by
  rcases List.mem_cons.1 hy with rfl | hy
  · exact hc
  · exact h y hy
theorem quo_bytes (a : Nat) : ∀ l, Bytes l → Bytes (quo a l)
  | [], _ => fun _ hy => nomatch hy
  | [_], _ => fun _ hy => nomatch hy
  | _ :: d :: t, h => Bytes.cons (ev_lt h.tail a) (quo_bytes a (d :: t) h.tail)
theorem quo_ev (a x : Nat) (ha : a < 256) (hx : x < 256) : ∀ l, Bytes l → ev l x ^^^ ev l a = mul (x ^^^ a) (ev (quo a l) x)
  | [], _ => by simp [ev, quo, mul_zero]
  | [c], _ => by simp [ev, quo, mul_zero, zero_mul]
  | c :: d :: t, h => by
    have ih := quo_ev a x ha hx (d :: t) h.tail
    have e1 : ev (c :: d :: t) x = mul (ev (d :: t) x) x ^^^ c := rfl
    have e2 : ev (c :: d :: t) a = mul (ev (d :: t) a) a ^^^ c := rfl
    have e3 : ev (quo a (c :: d :: t)) x = mul (ev (quo a (d :: t)) x) x ^^^ ev (d :: t) a := rfl
    rw [e1, e2, e3]
    have lT := ev_lt h.tail x
    have lA := ev_lt h.tail a
    have lQ := ev_lt (quo_bytes a _ h.tail) x
    generalize ev (d :: t) x = T at *
    generalize ev (d :: t) a = A at *
    generalize ev (quo a (d :: t)) x = Q at *
    rw [mul_add_right, ← mul_assoc _ _ _ (xor_lt hx ha) lQ hx, ← ih, mul_add_left, mul_add_left x a A, mul_comm x A hx lA, mul_comm a A ha lA,
      xor4, Nat.xor_self, Nat.xor_zero, ← Nat.xor_assoc, Nat.xor_assoc _ (mul A x) (mul A x), Nat.xor_self, Nat.xor_zero]
theorem quo_zero (a : Nat) : ∀ l, ev l a = 0 → (∀ c ∈ quo a l, c = 0) → ∀ c ∈ l, c = 0
  | [], _, _ => fun c h => nomatch h
  | [c], h, _ => by
    intro y hy
    rcases List.mem_cons.1 hy with rfl | hy
    · simpa [ev, zero_mul] using h
    · cases hy
  | c :: d :: t, h, hq => by
    have hT : ev (d :: t) a = 0 := hq _ List.mem_cons_self
    have ht := quo_zero a (d :: t) hT (fun y hy => hq y (List.mem_cons_of_mem _ hy))
    intro y hy
    rcases List.mem_cons.1 hy with rfl | hy
    · have e2 : ev (y :: d :: t) a = mul (ev (d :: t) a) a ^^^ y := rfl
      rw [e2, hT, zero_mul, Nat.zero_xor] at h
      exact h
    · exact ht y hy
theorem zero_of_roots : ∀ (n : Nat) (l : List Nat), l.length = n → Bytes l → ∀ xs : List Nat, xs.Nodup → (∀ x ∈ xs, x < 256 ∧ ev l x = 0) → l.length ≤ xs.length → ∀ c ∈ l, c = 0
  | 0, l, hn, _, _, _, _, _ => by
    intro c hc
    rw [List.length_eq_zero_iff.1 hn] at hc
    cases hc
  | n + 1, l, hn, hb, xs, hd, hr, hl => by
    rcases xs with _ | ⟨a, xs⟩
    · rw [hn] at hl; simp at hl
    · obtain ⟨ha, hra⟩ := hr a List.mem_cons_self
      have hq := zero_of_roots n (quo a l) (by rw [quo_length]; omega) (quo_bytes a l hb) xs (List.nodup_cons.1 hd).2 (fun b hb' => by
        obtain ⟨h1, h2⟩ := hr b (List.mem_cons_of_mem _ hb')
        refine ⟨h1, ?_⟩
        have e := quo_ev a b ha h1 l hb
        rw [h2, hra, Nat.xor_self] at e
        have hne : b ≠ a := fun e' => (List.nodup_cons.1 hd).1 (e' ▸ hb')
        by_cases h0 : ev (quo a l) b = 0
        · exact h0
        · exact absurd e.symm (no_zero _ _ (xor_lt h1 ha) (ev_lt (quo_bytes a l hb) b) (xor_ne hne) h0)) (by rw [quo_length]; simp at hl; omega)
      exact quo_zero a l hra hq
theorem ev_zero {l : List Nat} (h : ∀ c ∈ l, c = 0) (x : Nat) : ev l x = 0 := by
  induction l with
  | nil => rfl
  | cons c t ih =>
    have e : ev (c :: t) x = mul (ev t x) x ^^^ c := rfl
    rw [e, ih (fun y hy => h y (List.mem_cons_of_mem _ hy)), zero_mul, h c List.mem_cons_self, Nat.xor_self]

/-- sums, multiples, products by (x - a) of lists of coefficients -/
def padd : List Nat → List Nat → List Nat
  | [], t => t
  | s, [] => s
  | a :: s, b :: t => (a ^^^ b) :: padd s t
theorem padd_length : ∀ s t, (padd s t).length = max s.length t.length
  | [], t => by simp [padd]
  | a :: s, [] => by simp [padd]
  | a :: s, b :: t => by simp [padd, padd_length s t]
theorem padd_bytes : ∀ s t, Bytes s → Bytes t → Bytes (padd s t)
  | [], t, _, h => by simpa [padd] using h
  | a :: s, [], h, _ => by simpa [padd] using h
  | a :: s, b :: t, h, h' => by
    rw [padd]
    exact Bytes.cons (xor_lt h.head h'.head) (padd_bytes s t h.tail h'.tail)
theorem ev_padd (x : Nat) : ∀ s t, ev (padd s t) x = ev s x ^^^ ev t x
  | [], t => by simp [padd, ev]
  | a :: s, [] => by simp [padd, ev]
  | a :: s, b :: t => by
    have e := ev_padd x s t
    simp only [padd, ev, e, mul_add_left]
    exact xor4 _ _ _ _
def scale (c : Nat) (l : List Nat) : List Nat := l.map fun y => mul y c
theorem scale_bytes (c : Nat) {l : List Nat} (h : Bytes l) : Bytes (scale c l) := fun y hy => by
  obtain ⟨z, hz, rfl⟩ := List.mem_map.1 hy
  exact mul_lt _ _ (h z hz)
theorem ev_scale (c x : Nat) (hc : c < 256) (hx : x < 256) : ∀ l, Bytes l → ev (scale c l) x = mul (ev l x) c
  | [], _ => by simp [scale, ev, zero_mul]
  | y :: t, h => by
    have e := ev_scale c x hc hx t h.tail
    have e1 : ev (scale c (y :: t)) x = mul (ev (scale c t) x) x ^^^ mul y c := rfl
    have e2 : ev (y :: t) x = mul (ev t x) x ^^^ y := rfl
    have lT := ev_lt h.tail x
    rw [e1, e2, e, mul_add_left, mul_assoc _ c x lT hc hx, mul_comm c x hc hx, ← mul_assoc _ x c lT hx hc]
def lin (a : Nat) (l : List Nat) : List Nat := padd (0 :: l) (scale a l)
theorem lin_length (a : Nat) (l : List Nat) : (lin a l).length = l.length + 1 := by
  rw [lin, padd_length]; simp [scale]
theorem lin_bytes (a : Nat) {l : List Nat} (h : Bytes l) : Bytes (lin a l) := padd_bytes _ _ (Bytes.cons (by omega) h) (scale_bytes a h)
theorem ev_lin (a x : Nat) (ha : a < 256) (hx : x < 256) {l : List Nat} (h : Bytes l) : ev (lin a l) x = mul (ev l x) (x ^^^ a) := by
  have e1 : ev (0 :: l) x = mul (ev l x) x ^^^ 0 := rfl
  rw [lin, ev_padd, e1, ev_scale a x ha hx l h, Nat.xor_zero, ← mul_add_right]

/-- the polynomial of the weights -/
def wp (xs : List Nat) (i : Nat) : Nat → List Nat
  | 0 => [1]
  | k + 1 => if k = i then wp xs i k else lin (nth xs k) (wp xs i k)
theorem wp_bytes {xs : List Nat} (i : Nat) : ∀ k, Bytes (wp xs i k)
  | 0 => Bytes.cons (by omega) (fun _ hy => nomatch hy)
  | k + 1 => by
    unfold wp
    split
    · exact wp_bytes i k
    · exact lin_bytes _ (wp_bytes i k)
theorem wp_length {xs : List Nat} (i : Nat) : ∀ k, (wp xs i k).length = if i < k then k else k + 1
  | 0 => rfl
  | k + 1 => by
    have ih := wp_length (xs := xs) i k
    unfold wp
    split
    · rename_i h; subst h
      rw [ih, if_neg (by omega), if_pos (by omega)]
    · rw [lin_length, ih]
      by_cases h : i < k
      · rw [if_pos h, if_pos (by omega)]
      · rw [if_neg h, if_neg (by omega)]
theorem ev_wp {xs : List Nat} (hb : Bytes xs) (i x : Nat) (hx : x < 256) : ∀ k, ev (wp xs i k) x = wa xs i x k
  | 0 => by simp [wp, wa, ev, zero_mul]
  | k + 1 => by
    have ih := ev_wp hb i x hx k
    by_cases h : k = i
    · rw [wa_no h, wp, if_pos h, ih]
    · rw [wa_yes h, wp, if_neg h, ev_lin _ _ (hb.at_ k) hx (wp_bytes i k), ih]
/-- the polynomial through points -/
def lp (xs ys : List Nat) : Nat → List Nat
  | 0 => []
  | k + 1 => padd (lp xs ys k) (scale (mul (nth ys k) (inv (wa xs k (nth xs k) xs.length))) (wp xs k xs.length))
theorem lp_bytes {xs ys : List Nat} : ∀ k, Bytes (lp xs ys k)
  | 0 => fun _ hy => nomatch hy
  | k + 1 => padd_bytes _ _ (lp_bytes k) (scale_bytes _ (wp_bytes k _))
theorem lp_length {xs ys : List Nat} : ∀ k, k ≤ xs.length → (lp xs ys k).length ≤ xs.length
  | 0, _ => by simp [lp]
  | k + 1, h => by
    have := lp_length (xs := xs) (ys := ys) k (by omega)
    rw [lp, padd_length]
    have e : (scale (mul (nth ys k) (inv (wa xs k (nth xs k) xs.length))) (wp xs k xs.length)).length = xs.length := by
      simp [scale, wp_length]; omega
    omega
theorem ev_lp {xs ys : List Nat} (hx : Bytes xs) (hy : Bytes ys) (x : Nat) (h : x < 256) : ∀ k, ev (lp xs ys k) x = atk xs ys x k
  | 0 => rfl
  | k + 1 => by
    have li := inv_lt _ (wa_lt (xs := xs) k (nth xs k) xs.length)
    have lw := wa_lt (xs := xs) k x xs.length
    rw [lp, ev_padd, ev_lp hx hy x h k, ev_scale _ _ (mul_lt _ _ (hy.at_ k)) h _ (wp_bytes k _), ev_wp hx k x h, atk, wt,
      mul_comm _ _ lw (mul_lt _ _ (hy.at_ k)), mul_assoc _ _ _ (hy.at_ k) li lw, mul_comm _ _ li lw]

/-- at its own points -/
theorem wa_zero {xs : List Nat} (i j : Nat) (hj : j ≠ i) : ∀ k, j < k → wa xs i (nth xs j) k = 0
  | 0, h => by omega
  | k + 1, h => by
    by_cases hk : k = i
    · rw [wa_no hk]; exact wa_zero i j hj k (by omega)
    · rw [wa_yes hk]
      by_cases hjk : j = k
      · subst hjk; rw [Nat.xor_self, mul_zero]
      · rw [wa_zero i j hj k (by omega), zero_mul]
theorem wa_ne {xs : List Nat} (hb : Bytes xs) (hd : dup xs = false) (i : Nat) (hi : i < xs.length) : ∀ k, k ≤ xs.length → wa xs i (nth xs i) k ≠ 0
  | 0, _ => by simp [wa]
  | k + 1, h => by
    have ih := wa_ne hb hd i hi k (by omega)
    by_cases hk : k = i
    · rw [wa_no hk]; exact ih
    · rw [wa_yes hk]
      exact no_zero _ _ (wa_lt _ _ _) (xor_lt (hb.at_ i) (hb.at_ k)) ih (xor_ne (dup_no hd hi (by omega) (Ne.symm hk)))
theorem wt_own {xs : List Nat} (hb : Bytes xs) (hd : dup xs = false) {i : Nat} (hi : i < xs.length) : wt xs i (nth xs i) = 1 :=
  mul_inv _ (wa_lt _ _ _) (wa_ne hb hd i hi _ (Nat.le_refl _))
theorem wt_other {xs : List Nat} {i j : Nat} (hj : j < xs.length) (h : j ≠ i) : wt xs i (nth xs j) = 0 := by
  rw [wt, wa_zero i j h _ hj, zero_mul]
theorem atk_own {xs ys : List Nat} (hb : Bytes xs) (hy : Bytes ys) (hd : dup xs = false) {j : Nat} (hj : j < xs.length) : ∀ k, k ≤ xs.length →
    atk xs ys (nth xs j) k = if j < k then nth ys j else 0
  | 0, _ => rfl
  | k + 1, h => by
    rw [atk, atk_own hb hy hd hj k (by omega)]
    by_cases hk : j = k
    · subst hk
      rw [if_neg (by omega), if_pos (by omega), wt_own hb hd hj, mul_one _ (hy.at_ j), Nat.zero_xor]
    · rw [wt_other hj hk, mul_zero, Nat.xor_zero]
      by_cases h' : j < k
      · rw [if_pos h', if_pos (by omega)]
      · rw [if_neg h', if_neg (by omega)]
theorem atk_points {xs ys : List Nat} (hb : Bytes xs) (hy : Bytes ys) (hd : dup xs = false) {j : Nat} (hj : j < xs.length) : atk xs ys (nth xs j) xs.length = nth ys j := by
  rw [atk_own hb hy hd hj _ (Nat.le_refl _), if_pos hj]

theorem nodup_of_dup {xs : List Nat} (hd : dup xs = false) : xs.Nodup := by
  rw [List.nodup_iff_pairwise_ne, List.pairwise_iff_getElem]
  intro i j hi hj hij e
  exact dup_no hd hi hj (by omega) (by rw [nth_eq, nth_eq, List.getElem?_eq_getElem hi, List.getElem?_eq_getElem hj, e])
/-- a polynomial of at most so many coefficients is told by its values at so many points -/
theorem through {l xs ys : List Nat} (hl : Bytes l) (hb : Bytes xs) (hy : Bytes ys) (hd : dup xs = false) (hn : l.length ≤ xs.length) (hv : ∀ j, j < xs.length → nth ys j = ev l (nth xs j))
    (x : Nat) (hx : x < 256) : atk xs ys x xs.length = ev l x := by
  have hz := zero_of_roots _ (padd l (lp xs ys xs.length)) rfl (padd_bytes _ _ hl (lp_bytes _)) xs (nodup_of_dup hd) (fun z hz => by
    refine ⟨hb z hz, ?_⟩
    obtain ⟨j, hj, rfl⟩ := List.mem_iff_getElem.1 hz
    have e : xs[j] = nth xs j := by rw [nth_eq, List.getElem?_eq_getElem hj]; rfl
    rw [ev_padd, ev_lp hb hy _ (hb _ hz), e, atk_points hb hy hd hj, hv j hj, Nat.xor_self]) (by
    have := lp_length (xs := xs) (ys := ys) xs.length (Nat.le_refl _)
    rw [padd_length]; omega)
  have e := ev_zero hz x
  rw [ev_padd, ev_lp hb hy x hx] at e
  exact (xor_cancel e).symm

/-- how many zeros there are below n -/
def zeros (l : List Nat) (n : Nat) : Nat := ((List.range n).filter fun x => ev l x == 0).length
theorem zeros_succ (l : List Nat) (n : Nat) : zeros l (n + 1) = zeros l n + if (ev l n == 0) = true then 1 else 0 := by
  unfold zeros
  rw [List.range_succ, List.filter_append]
  by_cases h : ev l n = 0 <;> simp [h]
theorem zeros_few {l : List Nat} (hl : Bytes l) (h : ∃ c ∈ l, c ≠ 0) : zeros l 256 < l.length := by
  rcases Nat.lt_or_ge (zeros l 256) l.length with hlt | hge
  · exact hlt
  · obtain ⟨c, hc, h0⟩ := h
    exact absurd (zero_of_roots _ l rfl hl _ (List.nodup_range.filter _) (fun x hx => by simpa using hx) hge c hc) h0
theorem zeros_all {l : List Nat} (h : ∀ c ∈ l, c = 0) : zeros l 256 = 256 := by
  have e : ((List.range 256).filter fun x => ev l x == 0) = List.range 256 := by
    rw [List.filter_eq_self]
    intro x _
    rw [ev_zero h x]; rfl
  unfold zeros
  rw [e, List.length_range]
theorem zeros_le (l : List Nat) (n : Nat) : zeros l n ≤ n := by
  unfold zeros
  exact Nat.le_trans (List.length_filter_le _ _) (by simp)

end Gf
