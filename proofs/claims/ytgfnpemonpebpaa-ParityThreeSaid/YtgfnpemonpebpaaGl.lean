/-
  Plain mathematics, no program: polynomials over the field of 256 elements as lists of coefficients, their values, the weights of points, and the value of the polynomial through points.
-/
import Derived.Test.YtgfnpemonpebpaaGf
namespace Gf

/-- the i-th, or 0 -/
def nth (l : List Nat) (i : Nat) : Nat := l.getD i 0
theorem nth_eq (l : List Nat) (i : Nat) : nth l i = l[i]?.getD 0 := by unfold nth; rw [List.getD_eq_getElem?_getD]
def Bytes (l : List Nat) : Prop := ∀ x ∈ l, x < 256
theorem Bytes.at_ {l : List Nat} (h : Bytes l) (i : Nat) : (nth l i) < 256 := by
  rw [nth_eq]
  rcases hx : l[i]? with _ | x
  · simp
  · exact h x (List.mem_of_getElem? hx)
theorem xor_lt {a b : Nat} (ha : a < 256) (hb : b < 256) : a ^^^ b < 256 := Nat.xor_lt_two_pow (n := 8) ha hb

/-- the value at x -/
def ev : List Nat → Nat → Nat
  | [], _ => 0
  | c :: t, x => mul (ev t x) x ^^^ c
theorem ev_lt {l : List Nat} (h : Bytes l) (x : Nat) : ev l x < 256 := by
  induction l with
  | nil => simp [ev]
  | cons c t ih => exact xor_lt (mul_lt _ _ (ih fun y hy => h y (List.mem_cons_of_mem _ hy))) (h c List.mem_cons_self)
theorem drop_getD {l : List Nat} {k : Nat} (h : k < l.length) : l.drop k = (nth l k) :: l.drop (k + 1) := by
  rw [List.drop_eq_getElem_cons h, nth_eq, List.getElem?_eq_getElem h]; rfl
theorem ev_drop {l : List Nat} {k : Nat} (h : k < l.length) (x : Nat) : ev (l.drop k) x = mul (ev (l.drop (k + 1)) x) x ^^^ (nth l k) := by
  rw [drop_getD h]; rfl

/-- the document's answer: the sum so far, the power so far -/
def pw (x : Nat) : Nat → Nat
  | 0 => 1
  | k + 1 => mul (pw x k) x
def es (l : List Nat) (x : Nat) : Nat → Nat
  | 0 => 0
  | k + 1 => es l x k ^^^ mul ((nth l k)) (pw x k)
theorem pw_lt (x : Nat) : ∀ k, pw x k < 256
  | 0 => by simp [pw]
  | k + 1 => mul_lt _ _ (pw_lt x k)
theorem es_lt {l : List Nat} (h : Bytes l) (x : Nat) : ∀ k, es l x k < 256
  | 0 => by simp [es]
  | k + 1 => xor_lt (es_lt h x k) (mul_lt _ _ (h.at_ k))
theorem es_ev {l : List Nat} (h : Bytes l) (x : Nat) (hx : x < 256) : ∀ k, k ≤ l.length → es l x k ^^^ mul (pw x k) (ev (l.drop k) x) = ev l x
  | 0, _ => by
    have := ev_lt h x
    simp only [es, pw, List.drop_zero, Nat.zero_xor]
    rw [mul_comm 1 _ (by omega) this, mul_one _ this]
  | k + 1, hk => by
    have hd : Bytes (l.drop (k + 1)) := fun y hy => h y (List.mem_of_mem_drop hy)
    rw [← es_ev h x hx k (by omega), ev_drop (k := k) (by omega), es, pw, mul_add_right, Nat.xor_assoc]
    congr 1
    rw [mul_assoc _ _ _ (pw_lt x k) hx (ev_lt hd x), mul_comm x _ hx (ev_lt hd x), mul_comm (pw x k) ((nth l k)) (pw_lt x k) (h.at_ k), Nat.xor_comm]
theorem es_all {l : List Nat} (h : Bytes l) (x : Nat) (hx : x < 256) : es l x l.length = ev l x := by
  have e := es_ev h x hx l.length (Nat.le_refl _)
  rw [List.drop_length] at e
  simpa [ev, mul_zero] using e

/-- the products of the differences to all points but the i-th -/
def wa (xs : List Nat) (i x : Nat) : Nat → Nat
  | 0 => 1
  | k + 1 => if k = i then wa xs i x k else mul (wa xs i x k) (x ^^^ (nth xs k))
theorem wa_no {xs : List Nat} {i x k : Nat} (h : k = i) : wa xs i x (k + 1) = wa xs i x k := by rw [wa, if_pos h]
theorem wa_yes {xs : List Nat} {i x k : Nat} (h : k ≠ i) : wa xs i x (k + 1) = mul (wa xs i x k) (x ^^^ (nth xs k)) := by rw [wa, if_neg h]
theorem wa_lt {xs : List Nat} (i x : Nat) : ∀ k, wa xs i x k < 256
  | 0 => by simp [wa]
  | k + 1 => by
    unfold wa
    split
    · exact wa_lt i x k
    · exact mul_lt _ _ (wa_lt i x k)
def wt (xs : List Nat) (i x : Nat) : Nat := mul (wa xs i x xs.length) (inv (wa xs i ((nth xs i)) xs.length))
theorem wt_lt (xs : List Nat) (i x : Nat) : wt xs i x < 256 := mul_lt _ _ (wa_lt i x _)
/-- the value at x of the polynomial through the first k points -/
def atk (xs ys : List Nat) (x : Nat) : Nat → Nat
  | 0 => 0
  | k + 1 => atk xs ys x k ^^^ mul ((nth ys k)) (wt xs k x)
theorem atk_lt {xs ys : List Nat} (hy : Bytes ys) (x : Nat) : ∀ k, atk xs ys x k < 256
  | 0 => by simp [atk]
  | k + 1 => xor_lt (atk_lt hy x k) (mul_lt _ _ (hy.at_ k))

theorem inv_mul (a b : Nat) (ha : a < 256) (hb : b < 256) : inv (mul a b) = mul (inv a) (inv b) := by
  by_cases h0 : a = 0
  · subst h0; rw [zero_mul, inv_zero, zero_mul]
  · by_cases h1 : b = 0
    · subst h1; rw [mul_zero, inv_zero, mul_zero]
    · have ia := inv_lt a ha
      have ib := inv_lt b hb
      refine (inv_unique _ _ (mul_lt _ _ ha) (mul_lt _ _ ia) ?_).symm
      rw [mul_assoc a b _ ha hb (mul_lt _ _ ia), mul_comm (inv a) (inv b) ia ib, ← mul_assoc b _ _ hb ib ia, mul_inv b hb h1,
        mul_comm 1 _ (by omega) ia, mul_one _ ia, mul_inv a ha h0]
theorem inv_one : inv 1 = 1 := by decide +kernel

/-- the document's answer: one value, times the quotients so far -/
def rpart (xs : List Nat) (y i x : Nat) : Nat → Nat
  | 0 => y
  | k + 1 => if k = i then rpart xs y i x k else mul (rpart xs y i x k) (mul (x ^^^ (nth xs k)) (inv ((nth xs i) ^^^ (nth xs k))))
theorem rpart_no {xs : List Nat} {y i x k : Nat} (h : k = i) : rpart xs y i x (k + 1) = rpart xs y i x k := by rw [rpart, if_pos h]
theorem rpart_yes {xs : List Nat} {y i x k : Nat} (h : k ≠ i) : rpart xs y i x (k + 1) = mul (rpart xs y i x k) (mul (x ^^^ (nth xs k)) (inv ((nth xs i) ^^^ (nth xs k)))) := by rw [rpart, if_neg h]
theorem rpart_lt {xs : List Nat} (y i x : Nat) (hy : y < 256) : ∀ k, rpart xs y i x k < 256
  | 0 => hy
  | k + 1 => by
    unfold rpart
    split
    · exact rpart_lt y i x hy k
    · exact mul_lt _ _ (rpart_lt y i x hy k)
theorem rpart_eq {xs : List Nat} (hx : Bytes xs) (y i x : Nat) (hy : y < 256) (hx0 : x < 256) : ∀ k,
    rpart xs y i x k = mul y (mul (wa xs i x k) (inv (wa xs i ((nth xs i)) k)))
  | 0 => by simp only [rpart, wa]; rw [inv_one, mul_one 1 (by omega), mul_one y hy]
  | k + 1 => by
    have ih := rpart_eq hx y i x hy hx0 k
    by_cases h : k = i
    · rw [rpart_no h, wa_no h, wa_no h, ih]
    · have A := wa_lt (xs := xs) i x k
      have B := wa_lt (xs := xs) i ((nth xs i)) k
      have c := xor_lt hx0 (hx.at_ k)
      have d := xor_lt (hx.at_ i) (hx.at_ k)
      rw [rpart_yes h, wa_yes h, wa_yes h, ih, inv_mul _ _ B d]
      generalize wa xs i x k = a at *
      generalize wa xs i ((nth xs i)) k = b at *
      generalize x ^^^ (nth xs k) = c' at *
      generalize (nth xs i) ^^^ (nth xs k) = d' at *
      have ib := inv_lt b B
      have id' := inv_lt d' d
      rw [mul_assoc y _ _ hy (mul_lt _ _ A) (mul_lt _ _ c)]
      congr 1
      rw [mul_assoc a (inv b) _ A ib (mul_lt _ _ c), mul_assoc a c' _ A c (mul_lt _ _ ib)]
      congr 1
      rw [← mul_assoc (inv b) c' _ ib c id', mul_comm (inv b) c' ib c, mul_assoc c' _ _ c ib id']
theorem rpart_wt {xs : List Nat} (hx : Bytes xs) (y i x : Nat) (hy : y < 256) (hx0 : x < 256) : rpart xs y i x xs.length = mul y (wt xs i x) := rpart_eq hx y i x hy hx0 _

/-- is one of the points there twice? -/
def dupTo (l : List Nat) : Nat → Bool
  | 0 => false
  | k + 1 => dupTo l k || (l.take k).contains ((nth l k))
def dup (l : List Nat) : Bool := dupTo l l.length
theorem dupTo_iff (l : List Nat) : ∀ k, k ≤ l.length → (dupTo l k = true ↔ ∃ i j, i < j ∧ j < k ∧ (nth l i) = (nth l j))
  | 0, _ => by simp [dupTo]
  | k + 1, hk => by
    have ih := dupTo_iff l k (by omega)
    simp only [dupTo, Bool.or_eq_true, ih, List.contains_iff_mem]
    constructor
    · rintro (⟨i, j, h1, h2, h3⟩ | h)
      · exact ⟨i, j, h1, by omega, h3⟩
      · obtain ⟨i, hi, he⟩ := List.mem_iff_getElem.1 h
        have hl : i < k := by simp at hi; omega
        refine ⟨i, k, hl, by omega, ?_⟩
        rw [List.getElem_take] at he
        rw [← he, nth_eq, List.getElem?_eq_getElem (by omega)]; rfl
    · rintro ⟨i, j, h1, h2, h3⟩
      by_cases hj : j < k
      · exact .inl ⟨i, j, h1, hj, h3⟩
      · obtain rfl : j = k := by omega
        refine .inr ?_
        rw [← h3]
        refine List.mem_iff_getElem.2 ⟨i, by simp; omega, ?_⟩
        rw [List.getElem_take, nth_eq, List.getElem?_eq_getElem (by omega)]; rfl
theorem dup_iff (l : List Nat) : dup l = true ↔ ∃ i j, i < j ∧ j < l.length ∧ (nth l i) = (nth l j) := dupTo_iff l _ (Nat.le_refl _)
theorem dup_of {l : List Nat} {i j : Nat} (hi : i < l.length) (hj : j < l.length) (h : i ≠ j) (e : (nth l i) = (nth l j)) : dup l = true := by
  rw [dup_iff]
  rcases Nat.lt_or_gt_of_ne h with h | h
  · exact ⟨i, j, h, hj, e⟩
  · exact ⟨j, i, h, hi, e.symm⟩
theorem dup_not {l : List Nat} (h : ∀ i j, i < l.length → j < l.length → j ≠ i → (nth l j) ≠ (nth l i)) : dup l = false := by
  rw [Bool.eq_false_iff]
  intro hd
  obtain ⟨i, j, h1, h2, h3⟩ := (dup_iff l).1 hd
  exact h i j (by omega) h2 (by omega) h3.symm
theorem dup_no {l : List Nat} (hd : dup l = false) {i j : Nat} (hi : i < l.length) (hj : j < l.length) (h : i ≠ j) : (nth l i) ≠ (nth l j) := by
  intro e
  rw [dup_of hi hj h e] at hd
  cases hd
theorem dupTo_mono {l : List Nat} {k : Nat} (hk : k < l.length) (h : (l.take k).contains ((nth l k)) = true) : dup l = true := by
  rw [dup_iff]
  obtain ⟨i, j, h1, h2, h3⟩ := (dupTo_iff l (k + 1) (by omega)).1 (by simp only [dupTo, h, Bool.or_true])
  exact ⟨i, j, h1, by omega, h3⟩

end Gf
