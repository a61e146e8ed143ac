/-
  Plain mathematics of the rolling sum and of the cuts.
-/
namespace Ro
set_option linter.unusedVariables false
set_option linter.unusedSimpArgs false
/-- the sum of a window, in full -/
def T : List UInt8 → Nat
  | [] => 0
  | x :: l => (x.toNat + 1) * 69069 ^ l.length + T l
theorem T_snoc (l : List UInt8) (b : UInt8) : T (l ++ [b]) = T l * 69069 + b.toNat + 1 := by
  induction l with
  | nil => simp [T]
  | cons x l ih =>
    rw [List.cons_append, T, ih, T, List.length_append, List.length_singleton, Nat.pow_succ, ← Nat.mul_assoc, Nat.add_mul]
    omega
/-- as the machine has it -/
def S (l : List UInt8) : Nat := T l % 4294967296
theorem S_lt (l : List UInt8) : S l < 4294967296 := Nat.mod_lt _ (by decide)
theorem S_snoc (l : List UInt8) (b : UInt8) : S (l ++ [b]) = (S l * 69069 + b.toNat + 1) % 4294967296 := by
  unfold S; rw [T_snoc]; omega
def pw (n : Nat) : Nat := 69069 ^ n % 4294967296
theorem pw_succ (n : Nat) : pw (n + 1) = pw n * 69069 % 4294967296 := by unfold pw; rw [Nat.pow_succ]; omega
theorem pw_lt (n : Nat) : pw n < 4294967296 := Nat.mod_lt _ (by decide)
/-- the byte that leaves a window -/
theorem S_tail (x : UInt8) (l : List UInt8) : ((S (x :: l) : Int) - (pw l.length : Int) * (x.toNat + 1)) % 4294967296 = (S l : Int) := by
  have e : T (x :: l) = (x.toNat + 1) * 69069 ^ l.length + T l := rfl
  unfold S pw
  rw [e]
  generalize 69069 ^ l.length = P
  generalize T l = t
  rw [Int.natCast_emod, Int.natCast_emod, Int.natCast_emod, Int.natCast_add, Int.natCast_mul, Int.natCast_add]
  rw [Int.sub_emod, Int.emod_emod_of_dvd _ (by decide), Int.mul_emod, Int.emod_emod_of_dvd _ (by decide), ← Int.mul_emod, ← Int.sub_emod]
  congr 1
  rw [Int.mul_comm ((P : Nat) : Int)]
  simp only [Int.natCast_one]
  omega
/-- the window of w bytes that ends at n -/
def win (D : List UInt8) (w n : Nat) : List UInt8 := (D.take n).drop (n - w)
theorem win_first (D : List UInt8) (w n : Nat) (h : n ≤ w) : win D w n = D.take n := by unfold win; rw [Nat.sub_eq_zero_of_le h, List.drop_zero]
theorem win_step (D : List UInt8) (w n : Nat) (h : n < D.length) (hw : n < w) : win D w (n + 1) = win D w n ++ [D[n]] := by
  rw [win_first _ _ _ (by omega), win_first _ _ _ (by omega), List.take_succ_eq_append_getElem h]
theorem win_roll (D : List UInt8) (w n : Nat) (h : n < D.length) (hw : w ≤ n) (h0 : 0 < w) : win D w n ++ [D[n]] = D[n - w] :: win D w (n + 1) := by
  unfold win
  rw [List.take_succ_eq_append_getElem h]
  have l1 : (D.take n).length = n := by rw [List.length_take]; omega
  rw [show n + 1 - w = (n - w) + 1 from by omega, List.drop_append_of_le_length (by omega)]
  have e : (D.take n).drop (n - w) = D[n - w] :: (D.take n).drop (n - w + 1) := by
    rw [List.drop_eq_getElem_cons (by omega)]
    congr 1
    exact List.getElem_take
  rw [e]; rfl
theorem win_len (D : List UInt8) (w n : Nat) (h : n ≤ D.length) (hw : w ≤ n) : (win D w n).length = w := by
  unfold win; rw [List.length_drop, List.length_take]; omega
/-- the first place from n on, at most k later, at which p says so -/
def fnd (p : Nat → Bool) (n : Nat) : Nat → Nat
  | 0 => n
  | k + 1 => if p n then n else fnd p (n + 1) k
theorem fnd_le (p : Nat → Bool) : ∀ (k n : Nat), n ≤ fnd p n k ∧ fnd p n k ≤ n + k
  | 0, n => by simp [fnd]
  | k + 1, n => by
    unfold fnd
    split
    · omega
    · have := fnd_le p k (n + 1); omega
theorem fnd_hit {p : Nat → Bool} {n k : Nat} (h : p n = true) : fnd p n k = n := by
  cases k with
  | zero => rfl
  | succ k => rw [fnd, if_pos h]
theorem fnd_miss {p : Nat → Bool} {n k : Nat} (h : p n = false) : fnd p n (k + 1) = fnd p (n + 1) k := by rw [fnd, if_neg (by simp [h])]
theorem fnd_congr {p q : Nat → Bool} : ∀ (k n : Nat), (∀ i, n ≤ i → i < n + k → p i = q i) → fnd p n k = fnd q n k
  | 0, n, _ => rfl
  | k + 1, n, h => by
    rw [fnd, fnd, h n (by omega) (by omega), fnd_congr k (n + 1) (fun i h1 h2 => h i (by omega) (by omega))]
/-- cuts: window, least, most, mask -/
structure Cuts where
  w : Nat
  lo : Nat
  hi : Nat
  mask : Nat
def Cuts.Fit (c : Cuts) : Prop := 1 ≤ c.w ∧ c.w ≤ 64 ∧ c.w ≤ c.lo ∧ c.lo ≤ c.hi ∧ c.hi ≤ 65536
def cond (c : Cuts) (D : List UInt8) (n : Nat) : Bool := S (win D c.w n) &&& c.mask == c.mask
/-- how long the first chunk is -/
def one (c : Cuts) (D : List UInt8) : Nat := if D.length ≤ c.lo then D.length else fnd (cond c D) c.lo (min D.length c.hi - c.lo)
theorem one_pos (c : Cuts) (hc : c.Fit) (D : List UInt8) (h : D ≠ []) : 1 ≤ one c D ∧ one c D ≤ D.length := by
  have := List.length_pos_iff.2 h
  obtain ⟨h1, h2, h3, h4, h5⟩ := hc
  unfold one
  split
  · omega
  · have := fnd_le (cond c D) (min D.length c.hi - c.lo) c.lo; omega
/-- the chunks -/
def chunks (c : Cuts) : Nat → List UInt8 → List (List UInt8)
  | 0, _ => []
  | f + 1, D => if D = [] then [] else D.take (one c D) :: chunks c f (D.drop (one c D))
theorem chunks_more (c : Cuts) (hc : c.Fit) : ∀ (f g : Nat) (D : List UInt8), D.length ≤ f → D.length ≤ g → chunks c f D = chunks c g D
  | 0, 0, _, _, _ => rfl
  | 0, g + 1, D, h, _ => by
    have : D = [] := List.length_eq_zero_iff.1 (by omega)
    simp [chunks, this]
  | f + 1, 0, D, _, h => by
    have : D = [] := List.length_eq_zero_iff.1 (by omega)
    simp [chunks, this]
  | f + 1, g + 1, D, hf, hg => by
    unfold chunks
    split
    · rfl
    · rename_i h
      have := one_pos c hc D h
      rw [chunks_more c hc f g (D.drop (one c D)) (by rw [List.length_drop]; omega) (by rw [List.length_drop]; omega)]
def cut (c : Cuts) (D : List UInt8) : List (List UInt8) := chunks c D.length D
theorem cut_nil (c : Cuts) : cut c [] = [] := rfl
theorem cut_cons (c : Cuts) (hc : c.Fit) (D : List UInt8) (h : D ≠ []) : cut c D = D.take (one c D) :: cut c (D.drop (one c D)) := by
  have hp := one_pos c hc D h
  have hl := List.length_pos_iff.2 h
  unfold cut
  rw [show D.length = (D.length - 1) + 1 from by omega, chunks, if_neg h]
  rw [chunks_more c hc (D.length - 1) (D.drop (one c D)).length _ (by rw [List.length_drop]; omega) (Nat.le_refl _)]
theorem cut_join (c : Cuts) (hc : c.Fit) : ∀ (n : Nat) (D : List UInt8), D.length = n → (cut c D).flatten = D := by
  intro n
  induction n using Nat.strongRecOn with
  | _ n ih =>
    intro D hn
    by_cases h : D = []
    · rw [h]; rfl
    · have hp := one_pos c hc D h
      rw [cut_cons c hc D h, List.flatten_cons, ih (D.drop (one c D)).length (by rw [List.length_drop]; omega) _ rfl, List.take_append_drop]
theorem one_hi (c : Cuts) (hc : c.Fit) (D : List UInt8) : one c D ≤ c.hi := by
  obtain ⟨h1, h2, h3, h4, h5⟩ := hc
  unfold one
  split
  · omega
  · have := fnd_le (cond c D) (min D.length c.hi - c.lo) c.lo; omega
theorem one_lo (c : Cuts) (hc : c.Fit) (D : List UInt8) (h : one c D < D.length) : c.lo ≤ one c D := by
  unfold one at h ⊢
  split
  · rename_i k; rw [if_pos k] at h; omega
  · have := fnd_le (cond c D) (min D.length c.hi - c.lo) c.lo; omega
/-- each chunk's size -/
theorem cut_sizes (c : Cuts) (hc : c.Fit) : ∀ (n : Nat) (D : List UInt8), D.length = n → ∀ i (h : i < (cut c D).length), 1 ≤ ((cut c D)[i]).length ∧ ((cut c D)[i]).length ≤ c.hi ∧ (i + 1 < (cut c D).length → c.lo ≤ ((cut c D)[i]).length) := by
  intro n
  induction n using Nat.strongRecOn with
  | _ n ih =>
    intro D hn i hi
    by_cases h : D = []
    · subst h; simp [cut_nil] at hi
    · have hp := one_pos c hc D h
      have e := cut_cons c hc D h
      have ih' := ih (D.drop (one c D)).length (by rw [List.length_drop]; omega) _ rfl
      generalize cut c D = L at *
      subst e
      cases i with
      | zero =>
        simp only [List.getElem_cons_zero, List.length_take, List.length_cons]
        refine ⟨by omega, by have := one_hi c hc D; omega, fun hl => ?_⟩
        have : one c D < D.length := by
          rcases Nat.lt_or_ge (one c D) D.length with k | k
          · exact k
          · rw [List.drop_eq_nil_of_le k, cut_nil] at hl; simp at hl
        have := one_lo c hc D this
        omega
      | succ i =>
        simp only [List.getElem_cons_succ, List.length_cons] at hi ⊢
        obtain ⟨q1, q2, q3⟩ := ih' i (by simpa using hi)
        exact ⟨q1, q2, fun hl => q3 (by omega)⟩
/-- behind any chunk all is cut as if the bytes began there -/
theorem cut_drop (c : Cuts) (hc : c.Fit) : ∀ (n : Nat) (D : List UInt8), cut c ((cut c D).drop n).flatten = (cut c D).drop n
  | 0, D => by rw [List.drop_zero, cut_join c hc _ D rfl]
  | n + 1, D => by
    by_cases h : D = []
    · subst h; simp [cut_nil]
    · rw [cut_cons c hc D h, List.drop_succ_cons]
      exact cut_drop c hc n _
/-- where a mask has no bits, and where the least is the most, all have the least -/
theorem one_fixed (c : Cuts) (hc : c.Fit) (hf : c.mask = 0 ∨ c.lo = c.hi) (D : List UInt8) : one c D = min D.length c.lo := by
  unfold one
  split
  · omega
  · rcases hf with h | h
    · rw [fnd_hit (by unfold cond; rw [h]; simp)]; omega
    · rw [show min D.length c.hi - c.lo = 0 from by omega, fnd]; omega
theorem cut_same (c d : Cuts) (hc : c.Fit) (hd : d.Fit) (h : c.lo = d.lo) (fc : c.mask = 0 ∨ c.lo = c.hi) (fd : d.mask = 0 ∨ d.lo = d.hi) : ∀ (n : Nat) (D : List UInt8), D.length = n → cut c D = cut d D := by
  intro n
  induction n using Nat.strongRecOn with
  | _ n ih =>
    intro D hn
    by_cases e : D = []
    · rw [e]; rfl
    · have hp := one_pos c hc D e
      rw [cut_cons c hc D e, cut_cons d hd D e]
      have e1 : one d D = one c D := by rw [one_fixed c hc fc, one_fixed d hd fd, h]
      rw [e1, ih (D.drop (one c D)).length (by rw [List.length_drop]; omega) _ rfl]
/-- how many there are then -/
theorem cut_count (c : Cuts) (hc : c.Fit) (fc : c.mask = 0 ∨ c.lo = c.hi) : ∀ (n : Nat) (D : List UInt8), D.length = n → (cut c D).length = (D.length + c.lo - 1) / c.lo := by
  have h0 : 1 ≤ c.lo := by obtain ⟨h1, h2, h3, h4, h5⟩ := hc; omega
  intro n
  induction n using Nat.strongRecOn with
  | _ n ih =>
    intro D hn
    by_cases e : D = []
    · subst e; rw [cut_nil]; simp; exact (Nat.div_eq_of_lt (by omega)).symm
    · have hp := one_pos c hc D e
      have hl := List.length_pos_iff.2 e
      rw [cut_cons c hc D e, List.length_cons, ih (D.drop (one c D)).length (by rw [List.length_drop]; omega) _ rfl, one_fixed c hc fc, List.length_drop]
      by_cases k : D.length ≤ c.lo
      · rw [show D.length - min D.length c.lo = 0 from by omega, Nat.zero_add, Nat.div_eq_of_lt (by omega), show D.length + c.lo - 1 = (D.length - 1) + c.lo from by omega, Nat.add_div_right _ (by omega), Nat.div_eq_of_lt (by omega)]
      · rw [show D.length - min D.length c.lo + c.lo - 1 = D.length - 1 from by omega, show D.length + c.lo - 1 = (D.length - 1) + c.lo from by omega, Nat.add_div_right _ (by omega)]
end Ro
