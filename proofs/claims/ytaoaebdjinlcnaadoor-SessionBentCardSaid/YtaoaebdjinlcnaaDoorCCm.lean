/-
  Plain mathematics, no program: the stream's words, steps and blocks.
-/
set_option linter.unusedVariables false
set_option linter.unusedSimpArgs false
set_option maxRecDepth 100000
namespace Ch
/-- the i-th number of a list -/
def nth (l : List Nat) (i : Nat) : Nat := l.getD i 0
theorem nth_lt {l : List Nat} {i : Nat} (h : i < l.length) : nth l i = l[i] := by simp [nth, h]
theorem nth_get {l : List Nat} {i : Nat} (h : i < l.length) : l[i]? = some (nth l i) := by rw [nth_lt h]; simp [h]
/-- a word turned left -/
def rot (x k : Nat) : Nat := x * 2 ^ k % 4294967296 + x * 2 ^ k / 4294967296
theorem rot_or (x k : Nat) (hx : x < 4294967296) (hk : k ≤ 32) : (x * 2 ^ k % 4294967296) ||| (x / 2 ^ (32 - k)) = rot x k := by
  have e : (4294967296 : Nat) = 2 ^ (32 - k) * 2 ^ k := by rw [← Nat.pow_add, Nat.sub_add_cancel hk]
  have h1 : x * 2 ^ k % 4294967296 = (x % 2 ^ (32 - k)) <<< k := by
    rw [e, Nat.mul_mod_mul_right, Nat.shiftLeft_eq]
  have h2 : x * 2 ^ k / 4294967296 = x / 2 ^ (32 - k) := by
    rw [e, Nat.mul_div_mul_right _ _ (Nat.pow_pos (by omega))]
  have h3 : x / 2 ^ (32 - k) < 2 ^ k := by
    rw [Nat.div_lt_iff_lt_mul (Nat.pow_pos (by omega)), Nat.mul_comm, ← e]; exact hx
  unfold rot
  rw [h1, h2, Nat.shiftLeft_add_eq_or_of_lt h3]
theorem rot_lt (x k : Nat) (hx : x < 4294967296) (hk : k ≤ 32) : rot x k < 4294967296 := by
  rw [← rot_or x k hx hk]
  apply Nat.or_lt_two_pow (n := 32)
  · exact Nat.mod_lt _ (by decide)
  · exact Nat.lt_of_le_of_lt (Nat.div_le_self _ _) hx
def add (a b : Nat) : Nat := (a + b) % 4294967296
theorem add_lt (a b : Nat) : add a b < 4294967296 := Nat.mod_lt _ (by decide)
theorem xor_lt {a b : Nat} (ha : a < 4294967296) (hb : b < 4294967296) : a ^^^ b < 4294967296 := Nat.xor_lt_two_pow (n := 32) ha hb
/-- half of a half step: a word is added, another one turned -/
def half (S : List Nat) (a b d k : Nat) : List Nat :=
  (S.set a (add (nth S a) (nth S b))).set d (rot (nth (S.set a (add (nth S a) (nth S b))) d ^^^ nth (S.set a (add (nth S a) (nth S b))) a) k)
def step (S : List Nat) (a b c d : Nat) : List Nat := half (half (half (half S a b d 16) c d b 12) a b d 8) c d b 7
/-- sixteen words -/
def Wd (S : List Nat) : Prop := S.length = 16 ∧ ∀ x ∈ S, x < 4294967296
theorem Wd.nth {S : List Nat} (h : Wd S) (i : Nat) : Ch.nth S i < 4294967296 := by
  by_cases hi : i < S.length
  · rw [nth_lt hi]; exact h.2 _ (List.getElem_mem hi)
  · unfold Ch.nth; rw [List.getD_eq_getElem?_getD, List.getElem?_eq_none (by omega)]; decide
theorem Wd.set {S : List Nat} (h : Wd S) (i x : Nat) (hx : x < 4294967296) : Wd (S.set i x) := by
  refine ⟨by rw [List.length_set]; exact h.1, fun y hy => ?_⟩
  rcases List.mem_or_eq_of_mem_set hy with hy | rfl
  · exact h.2 y hy
  · exact hx
theorem Wd.half {S : List Nat} (h : Wd S) (a b d k : Nat) (hk : k ≤ 32) : Wd (half S a b d k) := by
  have h1 := h.set a (add (Ch.nth S a) (Ch.nth S b)) (add_lt _ _)
  exact h1.set _ _ (rot_lt _ _ (xor_lt (h1.nth _) (h1.nth _)) hk)
theorem Wd.step {S : List Nat} (h : Wd S) (a b c d : Nat) : Wd (step S a b c d) :=
  (((h.half _ _ _ _ (by decide)).half _ _ _ _ (by decide)).half _ _ _ _ (by decide)).half _ _ _ _ (by decide)
/-- four steps on the columns, four on the diagonals -/
def cols (S : List Nat) : Nat → List Nat
  | 0 => S
  | i + 1 => step (cols S i) i (4 + i) (8 + i) (12 + i)
def diags (S : List Nat) : Nat → List Nat
  | 0 => S
  | i + 1 => step (diags S i) i (4 + (i + 1) % 4) (8 + (i + 2) % 4) (12 + (i + 3) % 4)
def rounds (S : List Nat) : Nat → List Nat
  | 0 => S
  | i + 1 => diags (cols (rounds S i) 4) 4
theorem Wd.cols {S : List Nat} (h : Wd S) : ∀ i, Wd (cols S i)
  | 0 => h
  | i + 1 => (Wd.cols h i).step _ _ _ _
theorem Wd.diags {S : List Nat} (h : Wd S) : ∀ i, Wd (diags S i)
  | 0 => h
  | i + 1 => (Wd.diags h i).step _ _ _ _
theorem Wd.rounds {S : List Nat} (h : Wd S) : ∀ i, Wd (rounds S i)
  | 0 => h
  | i + 1 => ((Wd.rounds h i).cols 4).diags 4
/-- a word of four bytes -/
def word (k : List Nat) (i : Nat) : Nat := nth k i + 256 * nth k (i + 1) + 65536 * nth k (i + 2) + 16777216 * nth k (i + 3)
/-- bytes -/
def By (k : List Nat) : Prop := ∀ x ∈ k, x < 256
theorem By.nth {k : List Nat} (h : By k) (i : Nat) : Ch.nth k i < 256 := by
  by_cases hi : i < k.length
  · rw [nth_lt hi]; exact h _ (List.getElem_mem hi)
  · unfold Ch.nth; rw [List.getD_eq_getElem?_getD, List.getElem?_eq_none (by omega)]; decide
theorem By.word {k : List Nat} (h : By k) (i : Nat) : word k i < 4294967296 := by
  have := h.nth i; have := h.nth (i + 1); have := h.nth (i + 2); have := h.nth (i + 3)
  unfold Ch.word; omega
theorem word_or (a b c d : Nat) (ha : a < 256) (hb : b < 256) (hc : c < 256) : ((a ||| b * 256) ||| c * 65536) ||| d * 16777216 = a + 256 * b + 65536 * c + 16777216 * d := by
  have e1 : a ||| b * 256 = b * 256 + a := by
    rw [show b * 256 = b <<< 8 from by rw [Nat.shiftLeft_eq], Nat.or_comm, ← Nat.shiftLeft_add_eq_or_of_lt ha]
  have e2 : (b * 256 + a) ||| c * 65536 = c * 65536 + (b * 256 + a) := by
    rw [show c * 65536 = c <<< 16 from by rw [Nat.shiftLeft_eq], Nat.or_comm, ← Nat.shiftLeft_add_eq_or_of_lt (show b * 256 + a < 2 ^ 16 from by omega)]
  have e3 : (c * 65536 + (b * 256 + a)) ||| d * 16777216 = d * 16777216 + (c * 65536 + (b * 256 + a)) := by
    rw [show d * 16777216 = d <<< 24 from by rw [Nat.shiftLeft_eq], Nat.or_comm, ← Nat.shiftLeft_add_eq_or_of_lt (show c * 65536 + (b * 256 + a) < 2 ^ 24 from by omega)]
  rw [e1, e2, e3]; omega
/-- the sixteen words with which a block begins -/
def first (k nc : List Nat) (n : Nat) : List Nat :=
  [1634760805, 857760878, 2036477234, 1797285236, word k 0, word k 4, word k 8, word k 12, word k 16, word k 20, word k 24, word k 28, n, word nc 0, word nc 4, word nc 8]
theorem Wd.first {k nc : List Nat} {n : Nat} (hk : By k) (hn : By nc) (h : n < 4294967296) : Wd (first k nc n) := by
  refine ⟨rfl, fun x hx => ?_⟩
  simp only [Ch.first, List.mem_cons, List.not_mem_nil, or_false] at hx
  rcases hx with h | h | h | h | h | h | h | h | h | h | h | h | h | h | h | h <;> subst h
  all_goals first | decide | assumption | exact hk.word _ | exact hn.word _
/-- a block's bytes -/
def out (x w : List Nat) (j : Nat) : Nat := add (nth x (j / 4)) (nth w (j / 4)) / 256 ^ (j % 4) % 256
def blockOf (w : List Nat) : List Nat := (List.range 64).map (out (rounds w 10) w)
def block (k nc : List Nat) (n : Nat) : List Nat := blockOf (first k nc n)
theorem block_length (k nc : List Nat) (n : Nat) : (block k nc n).length = 64 := by simp [block, blockOf]
theorem By.block (k nc : List Nat) (n : Nat) : By (block k nc n) := fun x hx => by
  obtain ⟨j, _, rfl⟩ := List.mem_map.1 hx
  exact Nat.mod_lt _ (by decide)
theorem zero_block : (block (List.replicate 32 0) (List.replicate 12 0) 0).take 4 = [118, 184, 224, 173] := by decide +kernel
end Ch
