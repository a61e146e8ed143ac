/-
  Plain mathematics, no program: a secret's shares, what three of them tell, the third one that makes two fit a secret, and the noise that another secret wants.
-/
import Derived.Test.YtgfnpemonpebpaaGp
namespace Sx
open Gf
set_option linter.unusedVariables false
set_option linter.unusedSimpArgs false
def tab (f : Nat → Nat) : List Nat := (List.range 32).map f
theorem tab_length (f : Nat → Nat) : (tab f).length = 32 := by simp [tab]
theorem nth_tab (f : Nat → Nat) {i : Nat} (h : i < 32) : nth (tab f) i = f i := by rw [nth_eq]; simp [tab, h]
theorem tab_bytes {f : Nat → Nat} (h : ∀ i, i < 32 → f i < 256) : Bytes (tab f) := fun y hy => by
  obtain ⟨i, hi, rfl⟩ := List.mem_map.1 hy
  exact h i (by simpa using hi)
theorem tab_ext {f g : Nat → Nat} (h : ∀ i, i < 32 → f i = g i) : tab f = tab g := List.map_congr_left fun i hi => h i (by simpa using hi)
theorem tab_inj {f g : Nat → Nat} (h : tab f = tab g) (i : Nat) (hi : i < 32) : f i = g i := by
  have := congrArg (fun l => nth l i) h
  simpa [nth_tab _ hi] using this
theorem tab_nth {l : List Nat} (h : l.length = 32) : tab (nth l) = l := by
  apply List.ext_getElem?
  intro i
  by_cases hi : i < 32
  · simp [tab, nth_eq, hi, show i < l.length by omega]
  · rw [List.getElem?_eq_none (by rw [tab_length]; omega), List.getElem?_eq_none (by omega)]
theorem nth_cons_succ (x : Nat) (l : List Nat) (i : Nat) : nth (x :: l) (i + 1) = nth l i := by simp [nth_eq]
theorem nth_cons_zero (x : Nat) (l : List Nat) : nth (x :: l) 0 = x := by simp [nth_eq]
/-- the share at X -/
def shr (K M : List Nat) (X : Nat) : List Nat := X :: tab fun i => ev [nth K i, nth M i, nth M (32 + i)] X
theorem shr_length (K M : List Nat) (X : Nat) : (shr K M X).length = 33 := by simp [shr, tab_length]
theorem three_bytes {a b c : Nat} (ha : a < 256) (hb : b < 256) (hc : c < 256) : Bytes [a, b, c] := fun y hy => by simp at hy; omega
theorem shr_bytes {K M : List Nat} {X : Nat} (hK : Bytes K) (hM : Bytes M) (hX : X < 256) : Bytes (shr K M X) :=
  Bytes.cons hX (tab_bytes fun i _ => ev_lt (three_bytes (hK.at_ _) (hM.at_ _) (hM.at_ _)) X)
theorem shr_head (K M : List Nat) (X : Nat) : nth (shr K M X) 0 = X := nth_cons_zero _ _
theorem shr_at (K M : List Nat) (X : Nat) {i : Nat} (h : i < 32) : nth (shr K M X) (1 + i) = ev [nth K i, nth M i, nth M (32 + i)] X := by
  unfold shr; rw [Nat.add_comm, nth_cons_succ, nth_tab _ h]
def shrs (K M : List Nat) (n : Nat) : List (List Nat) := (List.range n).map fun i => shr K M (i + 1)
theorem shrs_length (K M : List Nat) (n : Nat) : (shrs K M n).length = n := by simp [shrs]
theorem shrs_succ (K M : List Nat) (n : Nat) : shrs K M (n + 1) = shrs K M n ++ [shr K M (n + 1)] := by simp [shrs, List.range_succ]
theorem shrs_get (K M : List Nat) (n i : Nat) (h : i < n) : (shrs K M n)[i]? = some (shr K M (i + 1)) := by simp [shrs, h]
theorem shrs_take (K M : List Nat) (m n : Nat) (h : m ≤ n) : (shrs K M n).take m = shrs K M m := by
  unfold shrs
  rw [← List.map_take, List.take_range, Nat.min_eq_left h]
/-- what three shares tell at a place -/
def tell (A B C : List Nat) (x i : Nat) : Nat := atk [nth A 0, nth B 0, nth C 0] [nth A (1 + i), nth B (1 + i), nth C (1 + i)] x 3
def at3 (A B C : List Nat) (x : Nat) : List Nat := tab (tell A B C x)
/-- are they unlike each other, and unlike 0? -/
def ok3 (a b c : Nat) : Bool := a != 0 && b != 0 && c != 0 && a != b && a != c && b != c
theorem ok3_iff (a b c : Nat) : ok3 a b c = true ↔ a ≠ 0 ∧ b ≠ 0 ∧ c ≠ 0 ∧ a ≠ b ∧ a ≠ c ∧ b ≠ c := by simp [ok3, and_assoc]
theorem dup3 (a b c : Nat) : dup [a, b, c] = !(a != b && a != c && b != c) := by
  have e : dup [a, b, c] = (decide (a = b) || decide (a = c) || decide (b = c)) := by
    simp only [dup, dupTo, List.length_cons, List.length_nil, nth_eq]
    by_cases h1 : a = b <;> by_cases h2 : a = c <;> by_cases h3 : b = c <;> simp [h1, h2, h3, eq_comm] <;> simp_all
  rw [e]
  by_cases h1 : a = b <;> by_cases h2 : a = c <;> by_cases h3 : b = c <;> simp [h1, h2, h3]
theorem dup3_ne {a b c : Nat} (h1 : a ≠ b) (h2 : a ≠ c) (h3 : b ≠ c) : dup [a, b, c] = false := by rw [dup3]; simp [h1, h2, h3]
/-- three points tell a polynomial of three coefficients -/
theorem poly3 {x1 x2 x3 y1 y2 y3 : Nat} (hx1 : x1 < 256) (hx2 : x2 < 256) (hx3 : x3 < 256) (hy1 : y1 < 256) (hy2 : y2 < 256) (hy3 : y3 < 256) (h12 : x1 ≠ x2) (h13 : x1 ≠ x3) (h23 : x2 ≠ x3) :
    ∃ c0 c1 c2, c0 < 256 ∧ c1 < 256 ∧ c2 < 256 ∧ (∀ x, x < 256 → atk [x1, x2, x3] [y1, y2, y3] x 3 = ev [c0, c1, c2] x) ∧ ev [c0, c1, c2] x1 = y1 ∧ ev [c0, c1, c2] x2 = y2 ∧ ev [c0, c1, c2] x3 = y3 := by
  have hb := three_bytes hx1 hx2 hx3
  have hy := three_bytes hy1 hy2 hy3
  have hd := dup3_ne h12 h13 h23
  have hlb := lp_bytes (xs := [x1, x2, x3]) (ys := [y1, y2, y3]) 3
  have hll := lp_length (xs := [x1, x2, x3]) (ys := [y1, y2, y3]) 3 (by simp)
  have hev := fun x hx => ev_lp hb hy x hx 3
  generalize lp [x1, x2, x3] [y1, y2, y3] 3 = l at *
  have key : ∃ c0 c1 c2, c0 < 256 ∧ c1 < 256 ∧ c2 < 256 ∧ ∀ x, ev l x = ev [c0, c1, c2] x := by
    match l, hll, hlb with
    | [], _, _ => exact ⟨0, 0, 0, by omega, by omega, by omega, fun x => by simp [ev, zero_mul]⟩
    | [a], _, h => exact ⟨a, 0, 0, h a (by simp), by omega, by omega, fun x => by simp [ev, zero_mul]⟩
    | [a, b], _, h => exact ⟨a, b, 0, h a (by simp), h b (by simp), by omega, fun x => by simp [ev, zero_mul]⟩
    | [a, b, c], _, h => exact ⟨a, b, c, h a (by simp), h b (by simp), h c (by simp), fun x => rfl⟩
    | _ :: _ :: _ :: _ :: _, h, _ => simp at h
  obtain ⟨c0, c1, c2, k0, k1, k2, hk⟩ := key
  have pt := fun j (hj : j < 3) => atk_points hb hy hd (j := j) hj
  have p0 := pt 0 (by omega)
  have p1 := pt 1 (by omega)
  have p2 := pt 2 (by omega)
  simp only [List.length_cons, List.length_nil, nth_eq, List.getElem?_cons_zero, List.getElem?_cons_succ, Option.getD_some] at p0 p1 p2
  refine ⟨c0, c1, c2, k0, k1, k2, fun x hx => by rw [← hk, hev x hx], ?_, ?_, ?_⟩
  · rw [← hk, hev x1 hx1]; exact p0
  · rw [← hk, hev x2 hx2]; exact p1
  · rw [← hk, hev x3 hx3]; exact p2
theorem through3 {x1 x2 x3 c0 c1 c2 : Nat} (hx1 : x1 < 256) (hx2 : x2 < 256) (hx3 : x3 < 256) (k0 : c0 < 256) (k1 : c1 < 256) (k2 : c2 < 256) (h12 : x1 ≠ x2) (h13 : x1 ≠ x3) (h23 : x2 ≠ x3) (x : Nat) (hx : x < 256) :
    atk [x1, x2, x3] [ev [c0, c1, c2] x1, ev [c0, c1, c2] x2, ev [c0, c1, c2] x3] x 3 = ev [c0, c1, c2] x := by
  have hl := three_bytes k0 k1 k2
  refine through (l := [c0, c1, c2]) hl (three_bytes hx1 hx2 hx3) (three_bytes (ev_lt hl _) (ev_lt hl _) (ev_lt hl _)) (dup3_ne h12 h13 h23) (by simp) (fun j hj => ?_) x hx
  match j, hj with
  | 0, _ => rfl
  | 1, _ => rfl
  | 2, _ => rfl
theorem ev_zero3 {c0 c1 c2 : Nat} (k1 : c1 < 256) (k2 : c2 < 256) : ev [c0, c1, c2] 0 = c0 := by
  simp [ev, mul_zero]
theorem tell_lt {A B C : List Nat} (hA : Bytes A) (hB : Bytes B) (hC : Bytes C) (x i : Nat) (hx : x < 256) : tell A B C x i < 256 := by
  unfold tell
  rw [← ev_lp (three_bytes (hA.at_ 0) (hB.at_ 0) (hC.at_ 0)) (three_bytes (hA.at_ (1 + i)) (hB.at_ (1 + i)) (hC.at_ (1 + i))) x hx 3]
  exact ev_lt (lp_bytes 3) x
theorem at3_bytes {A B C : List Nat} (hA : Bytes A) (hB : Bytes B) (hC : Bytes C) (x : Nat) (hx : x < 256) : Bytes (at3 A B C x) := tab_bytes fun i _ => tell_lt hA hB hC x i hx
/-- any three tell it -/
theorem any_three {K M : List Nat} (hK : Bytes K) (hM : Bytes M) (lK : K.length = 32) {a b c : Nat} (ha : a < 256) (hb : b < 256) (hc : c < 256) (h12 : a ≠ b) (h13 : a ≠ c) (h23 : b ≠ c) :
    at3 (shr K M a) (shr K M b) (shr K M c) 0 = K := by
  conv => rhs; rw [← tab_nth lK]
  refine tab_ext fun i hi => ?_
  unfold tell
  rw [shr_head, shr_head, shr_head, shr_at _ _ _ hi, shr_at _ _ _ hi, shr_at _ _ _ hi, through3 ha hb hc (hK.at_ _) (hM.at_ _) (hM.at_ _) h12 h13 h23 0 (by omega), ev_zero3 (hM.at_ _) (hM.at_ _)]
theorem at3_perm {A B C A' B' C' : List Nat} (hA : Bytes A) (hB : Bytes B) (hC : Bytes C) (h12 : nth A 0 ≠ nth B 0) (h13 : nth A 0 ≠ nth C 0) (h23 : nth B 0 ≠ nth C 0)
    (hp : (A' = C ∧ B' = A ∧ C' = B) ∨ (A' = B ∧ B' = A ∧ C' = C)) (x : Nat) (hx : x < 256) : at3 A' B' C' x = at3 A B C x := by
  refine tab_ext fun i _ => ?_
  unfold tell
  obtain ⟨c0, c1, c2, k0, k1, k2, hk, e1, e2, e3⟩ := poly3 (hA.at_ 0) (hB.at_ 0) (hC.at_ 0) (hA.at_ (1 + i)) (hB.at_ (1 + i)) (hC.at_ (1 + i)) h12 h13 h23
  rw [hk x hx]
  rcases hp with ⟨rfl, rfl, rfl⟩ | ⟨rfl, rfl, rfl⟩
  · rw [← e1, ← e2, ← e3]
    exact through3 (hC.at_ 0) (hA.at_ 0) (hB.at_ 0) k0 k1 k2 (Ne.symm h13) (Ne.symm h23) h12 x hx
  · rw [← e1, ← e2, ← e3]
    exact through3 (hB.at_ 0) (hA.at_ 0) (hC.at_ 0) k0 k1 k2 (Ne.symm h12) h23 h13 x hx
/-- the third share that makes two fit a secret -/
def third (S A B : List Nat) (x : Nat) : List Nat := x :: tab fun i => atk [0, nth A 0, nth B 0] [nth S i, nth A (1 + i), nth B (1 + i)] x 3
theorem third_length (S A B : List Nat) (x : Nat) : (third S A B x).length = 33 := by simp [third, tab_length]
theorem third_head (S A B : List Nat) (x : Nat) : nth (third S A B x) 0 = x := nth_cons_zero _ _
theorem third_at (S A B : List Nat) (x : Nat) {i : Nat} (h : i < 32) : nth (third S A B x) (1 + i) = atk [0, nth A 0, nth B 0] [nth S i, nth A (1 + i), nth B (1 + i)] x 3 := by
  unfold third; rw [Nat.add_comm 1 i, nth_cons_succ, nth_tab _ h, Nat.add_comm i 1]
theorem third_bytes {S A B : List Nat} (hS : Bytes S) (hA : Bytes A) (hB : Bytes B) {x : Nat} (hx : x < 256) : Bytes (third S A B x) :=
  Bytes.cons hx (tab_bytes fun i _ => by
    rw [← ev_lp (three_bytes (by omega) (hA.at_ 0) (hB.at_ 0)) (three_bytes (hS.at_ i) (hA.at_ (1 + i)) (hB.at_ (1 + i))) x hx 3]
    exact ev_lt (lp_bytes 3) x)
/-- byte by byte: one polynomial through the secret, both shares, and the third -/
theorem third_poly {S A B : List Nat} (hS : Bytes S) (hA : Bytes A) (hB : Bytes B) {x : Nat} (hx : x < 256) (a0 : nth A 0 ≠ 0) (b0 : nth B 0 ≠ 0) (hab : nth A 0 ≠ nth B 0) (i : Nat) (hi : i < 32) :
    ∃ c0 c1 c2, c0 < 256 ∧ c1 < 256 ∧ c2 < 256 ∧ c0 = nth S i ∧ ev [c0, c1, c2] (nth A 0) = nth A (1 + i) ∧ ev [c0, c1, c2] (nth B 0) = nth B (1 + i) ∧ ev [c0, c1, c2] x = nth (third S A B x) (1 + i) := by
  obtain ⟨c0, c1, c2, k0, k1, k2, hk, e1, e2, e3⟩ := poly3 (x1 := 0) (by omega) (hA.at_ 0) (hB.at_ 0) (hS.at_ i) (hA.at_ (1 + i)) (hB.at_ (1 + i)) (Ne.symm a0) (Ne.symm b0) hab
  rw [ev_zero3 k1 k2] at e1
  exact ⟨c0, c1, c2, k0, k1, k2, e1, e2, e3, by rw [third_at _ _ _ _ hi, hk x hx]⟩
theorem third_joins {S A B : List Nat} (hS : Bytes S) (lS : S.length = 32) (hA : Bytes A) (hB : Bytes B) {x : Nat} (hx : x < 256) (a0 : nth A 0 ≠ 0) (b0 : nth B 0 ≠ 0) (hab : nth A 0 ≠ nth B 0) (hxa : x ≠ nth A 0) (hxb : x ≠ nth B 0) :
    at3 A B (third S A B x) 0 = S := by
  conv => rhs; rw [← tab_nth lS]
  refine tab_ext fun i hi => ?_
  obtain ⟨c0, c1, c2, k0, k1, k2, e0, e1, e2, e3⟩ := third_poly hS hA hB hx a0 b0 hab i hi
  unfold tell
  rw [third_head, ← e1, ← e2, ← e3, through3 (hA.at_ 0) (hB.at_ 0) hx k0 k1 k2 hab (Ne.symm hxa) (Ne.symm hxb) 0 (by omega), ev_zero3 k1 k2, e0]
/-- the coefficients behind a secret's byte -/
def coef (A B C S : List Nat) (i : Nat) : Nat × Nat :=
  let one := tell A B C 1 i ^^^ nth S i
  let two := mul (tell A B C 2 i ^^^ nth S i) (inv 2)
  let q := mul (one ^^^ two) (inv 3)
  (one ^^^ q, q)
theorem xor_sw (a b : Nat) : (a ^^^ b) ^^^ b = a := by rw [Nat.xor_assoc, Nat.xor_self, Nat.xor_zero]
theorem inv2 : inv 2 = 142 := by decide +kernel
theorem inv3 : inv 3 = 244 := by decide +kernel
theorem ev1 {c0 c1 c2 : Nat} (k1 : c1 < 256) (k2 : c2 < 256) : ev [c0, c1, c2] 1 = c1 ^^^ c2 ^^^ c0 := by
  simp only [ev, zero_mul, Nat.zero_xor]
  rw [mul_one _ k2, mul_one _ (xor_lt k2 k1), Nat.xor_comm c2 c1]
theorem ev2_half {c0 c1 c2 : Nat} (k1 : c1 < 256) (k2 : c2 < 256) : mul (ev [c0, c1, c2] 2 ^^^ c0) 142 = mul c2 2 ^^^ c1 := by
  simp only [ev, zero_mul, Nat.zero_xor]
  rw [xor_sw, mul_assoc _ _ _ (xor_lt (mul_lt _ _ k2) k1) (by omega) (by omega), show mul 2 142 = 1 from by decide +kernel, mul_one _ (xor_lt (mul_lt _ _ k2) k1)]
theorem coef_eq {A B C S : List Nat} {i c0 c1 c2 : Nat} (k1 : c1 < 256) (k2 : c2 < 256) (h0 : c0 = nth S i) (t1 : tell A B C 1 i = ev [c0, c1, c2] 1) (t2 : tell A B C 2 i = ev [c0, c1, c2] 2) : coef A B C S i = (c1, c2) := by
  unfold coef
  simp only [t1, t2, ← h0]
  have e1 : ev [c0, c1, c2] 1 ^^^ c0 = c1 ^^^ c2 := by rw [ev1 k1 k2, xor_sw]
  rw [e1, inv2, ev2_half k1 k2, inv3]
  have e2 : (c1 ^^^ c2) ^^^ (mul c2 2 ^^^ c1) = mul c2 3 := by
    have e3 : mul c2 3 = mul c2 2 ^^^ c2 := by
      rw [show (3 : Nat) = 2 ^^^ 1 from by decide, mul_add_right, mul_one _ k2]
    rw [e3, Nat.xor_comm c1 c2, Nat.xor_assoc, Nat.xor_comm (mul c2 2) c1, ← Nat.xor_assoc c1 c1, Nat.xor_self, Nat.zero_xor, Nat.xor_comm]
  rw [e2, mul_assoc _ _ _ k2 (by omega) (by omega), show mul 3 244 = 1 from by decide +kernel, mul_one _ k2, xor_sw]
/-- another secret has, by another noise, the same two shares -/
theorem fits {K M O : List Nat} (hK : Bytes K) (hM : Bytes M) (hO : Bytes O) {a b x : Nat} (ha : a < 256) (hb : b < 256) (hx : x < 256) (a0 : a ≠ 0) (b0 : b ≠ 0) (hab : a ≠ b) (hxa : x ≠ a) (hxb : x ≠ b) (N : List Nat)
    (hN : ∀ i, i < 32 → (nth N i, nth N (32 + i)) = coef (shr K M a) (shr K M b) (third O (shr K M a) (shr K M b) x) O i) (c : Nat) (hc : c = a ∨ c = b) : shr O N c = shr K M c := by
  have hA := shr_bytes hK hM ha
  have hB := shr_bytes hK hM hb
  unfold shr
  congr 1
  refine tab_ext fun i hi => ?_
  obtain ⟨c0, c1, c2, k0, k1, k2, e0, e1, e2, e3⟩ := third_poly hO hA hB hx (by rw [shr_head]; exact a0) (by rw [shr_head]; exact b0) (by rw [shr_head, shr_head]; exact hab) i hi
  have tl : ∀ y, y < 256 → tell (shr K M a) (shr K M b) (third O (shr K M a) (shr K M b) x) y i = ev [c0, c1, c2] y := fun y hy => by
    unfold tell
    rw [← e1, ← e2, ← e3, third_head, shr_head, shr_head]
    exact through3 ha hb hx k0 k1 k2 hab (Ne.symm hxa) (Ne.symm hxb) y hy
  have hco := coef_eq k1 k2 e0 (tl 1 (by omega)) (tl 2 (by omega))
  have hN' := hN i hi
  rw [hco] at hN'
  injection hN' with n1 n2
  rw [n1, n2, ← e0]
  rw [shr_head, shr_at _ _ _ hi] at e1 e2
  rcases hc with rfl | rfl
  · exact e1
  · exact e2
/-- shares of two secrets made one -/
theorem sums {K K' M M' : List Nat} (i x : Nat) : ev [nth K i, nth M i, nth M (32 + i)] x ^^^ ev [nth K' i, nth M' i, nth M' (32 + i)] x = ev [nth K i ^^^ nth K' i, nth M i ^^^ nth M' i, nth M (32 + i) ^^^ nth M' (32 + i)] x := by
  have := ev_padd x [nth K i, nth M i, nth M (32 + i)] [nth K' i, nth M' i, nth M' (32 + i)]
  rw [← this]; rfl
end Sx
