/-
  Plain mathematics of the tokens: the best place ahead, packing, unpacking; there and back.
-/
import Derived.WalkKit
set_option linter.unusedVariables false
set_option linter.unusedSimpArgs false
namespace Go.Proofs.YtoggibooinhomaaDoor.Z
namespace Lz
/-- how many bytes stand alike at two heads, at most so many -/
def lcp : Nat → List UInt8 → List UInt8 → Nat
  | n + 1, a :: x, b :: y => if a = b then lcp n x y + 1 else 0
  | _, _, _ => 0
def sm (l : List UInt8) (i j : Nat) : Nat := lcp 131 (l.drop i) (l.drop j)
/-- the best of the distances up to k -/
def bst (l : List UInt8) (i : Nat) : Nat → Nat × Nat
  | 0 => (0, 0)
  | k + 1 => if (bst l i k).1 < sm l i (i - (k + 1)) then (sm l i (i - (k + 1)), k + 1) else bst l i k
def best (l : List UInt8) (i : Nat) : Nat × Nat := bst l i (min i 65535)
/-- bytes that stand for themselves -/
def runF : Nat → List UInt8 → List UInt8
  | 0, _ => []
  | f + 1, s => if s.length = 0 then [] else if 128 < s.length then 127 :: (s.take 128 ++ runF f (s.drop 128)) else UInt8.ofNat (s.length - 1) :: s
def run (s : List UInt8) : List UInt8 := runF s.length s
theorem runF_any : ∀ (f g : Nat) (s : List UInt8), s.length ≤ f → s.length ≤ g → runF f s = runF g s
  | 0, 0, _, _, _ => rfl
  | 0, g + 1, s, h, _ => by
    have : s.length = 0 := by omega
    simp [runF, this]
  | f + 1, 0, s, _, h => by
    have : s.length = 0 := by omega
    simp [runF, this]
  | f + 1, g + 1, s, h, h' => by
    unfold runF
    by_cases a : s.length = 0
    · rw [if_pos a, if_pos a]
    · rw [if_neg a, if_neg a]
      by_cases b : 128 < s.length
      · rw [if_pos b, if_pos b, runF_any f g (s.drop 128) (by simp; omega) (by simp; omega)]
      · rw [if_neg b, if_neg b]
theorem run_nil : run [] = [] := rfl
theorem run_long (s : List UInt8) (h : 128 < s.length) : run s = 127 :: (s.take 128 ++ run (s.drop 128)) := by
  unfold run
  rw [show s.length = (s.length - 1) + 1 from by omega]
  conv => lhs; unfold runF
  rw [if_neg (by omega), if_pos h, runF_any (s.length - 1) _ (s.drop 128) (by simp; omega) (Nat.le_refl _)]
theorem run_short (s : List UInt8) (h0 : s ≠ []) (h : s.length ≤ 128) : run s = UInt8.ofNat (s.length - 1) :: s := by
  have : s.length ≠ 0 := by simpa using h0
  unfold run
  rw [show s.length = (s.length - 1) + 1 from by omega]
  conv => lhs; unfold runF
  rw [if_neg (by omega), if_neg (by omega)]
  simp
theorem run_length (n : Nat) : ∀ s : List UInt8, s.length ≤ n → (run s).length = s.length + (s.length + 127) / 128 := by
  induction n with
  | zero =>
    intro s h
    have : s = [] := by simpa using h
    subst this
    rfl
  | succ n ih =>
    intro s h
    by_cases h0 : s = []
    · subst h0; rfl
    · by_cases h1 : 128 < s.length
      · rw [run_long s h1]
        have := ih (s.drop 128) (by simp; omega)
        simp only [List.length_cons, List.length_append, List.length_take, this, List.length_drop]
        omega
      · have : s.length ≠ 0 := by simpa using h0
        rw [run_short s h0 (by omega)]
        simp
        omega
/-- a copy -/
def cop (n far : Nat) : List UInt8 := [UInt8.ofNat (n + 124), UInt8.ofNat (far % 256), UInt8.ofNat (far / 256)]
/-- the bytes from r to at -/
def seg (l : List UInt8) (r at' : Nat) : List UInt8 := (l.take at').drop r
def pk (l : List UInt8) : Nat → Nat → Nat → List UInt8
  | 0, _, r => run (l.drop r)
  | f + 1, i, r => if l.length ≤ i then run (l.drop r) else if (best l i).1 < 4 then pk l f (i + 1) r else run (seg l r i) ++ (cop (best l i).1 (best l i).2 ++ pk l f (i + (best l i).1) (i + (best l i).1))
def pack (l : List UInt8) : List UInt8 := pk l l.length 0 0
theorem pk_any (l : List UInt8) : ∀ (f g i r : Nat), l.length ≤ i + f → l.length ≤ i + g → pk l f i r = pk l g i r
  | 0, 0, _, _, _, _ => rfl
  | 0, g + 1, i, r, h, _ => by
    unfold pk
    rw [if_pos (by omega)]
  | f + 1, 0, i, r, _, h => by
    conv => lhs; unfold pk
    rw [if_pos (by omega)]
    rfl
  | f + 1, g + 1, i, r, h, h' => by
    unfold pk
    by_cases a : l.length ≤ i
    · rw [if_pos a, if_pos a]
    · rw [if_neg a, if_neg a]
      by_cases b : (best l i).1 < 4
      · rw [if_pos b, if_pos b, pk_any l f g _ _ (by omega) (by omega)]
      · rw [if_neg b, if_neg b, pk_any l f g _ _ (by omega) (by omega)]
/-- packing from a place on -/
def pka (l : List UInt8) (i r : Nat) : List UInt8 := pk l (l.length - i) i r
theorem pka_end (l : List UInt8) (i r : Nat) (h : l.length ≤ i) : pka l i r = run (l.drop r) := by
  unfold pka
  rw [show l.length - i = 0 from by omega]
  rfl
theorem pka_one (l : List UInt8) (i r : Nat) (h : i < l.length) (hb : (best l i).1 < 4) : pka l i r = pka l (i + 1) r := by
  unfold pka
  rw [show l.length - i = (l.length - (i + 1)) + 1 from by omega]
  conv => lhs; unfold pk
  rw [if_neg (by omega), if_pos hb]
theorem pka_copy (l : List UInt8) (i r : Nat) (h : i < l.length) (hb : ¬ (best l i).1 < 4) :
    pka l i r = run (seg l r i) ++ (cop (best l i).1 (best l i).2 ++ pka l (i + (best l i).1) (i + (best l i).1)) := by
  unfold pka
  rw [show l.length - i = (l.length - (i + 1)) + 1 from by omega]
  conv => lhs; unfold pk
  rw [if_neg (by omega), if_neg hb, pk_any l _ (l.length - (i + (best l i).1)) _ _ (by omega) (by omega)]
theorem pka_pack (l : List UInt8) : pka l 0 0 = pack l := rfl
/-! the best place -/
theorem lcp_le : ∀ (n : Nat) (x y : List UInt8), lcp n x y ≤ n ∧ lcp n x y ≤ x.length ∧ lcp n x y ≤ y.length
  | 0, _, _ => by simp [lcp]
  | n + 1, [], _ => by simp [lcp]
  | n + 1, _ :: _, [] => by simp [lcp]
  | n + 1, a :: x, b :: y => by
    unfold lcp
    have := lcp_le n x y
    split
    · simp; omega
    · simp
theorem lcp_get : ∀ (n : Nat) (x y : List UInt8) (k : Nat), k < lcp n x y → x[k]? = y[k]?
  | 0, _, _, _, h => by simp [lcp] at h
  | n + 1, [], _, _, h => by simp [lcp] at h
  | n + 1, _ :: _, [], _, h => by simp [lcp] at h
  | n + 1, a :: x, b :: y, k, h => by
    unfold lcp at h
    by_cases e : a = b
    · rw [if_pos e] at h
      subst e
      cases k with
      | zero => rfl
      | succ k => exact lcp_get n x y k (by omega)
    · rw [if_neg e] at h
      omega
/-- so many are alike, and the next ones aren't, or there are no more -/
theorem lcp_eq : ∀ (n : Nat) (x y : List UInt8) (m : Nat), m ≤ n → m ≤ x.length → m ≤ y.length → (∀ k, k < m → x[k]? = y[k]?) → (m = n ∨ x.length = m ∨ y.length = m ∨ x[m]? ≠ y[m]?) → lcp n x y = m
  | 0, _, _, m, h, _, _, _, _ => by
    have : m = 0 := by omega
    subst this
    simp [lcp]
  | n + 1, [], _, m, _, h, _, _, _ => by
    have : m = 0 := by simpa using h
    subst this
    simp [lcp]
  | n + 1, _ :: _, [], m, _, _, h, _, _ => by
    have : m = 0 := by simpa using h
    subst this
    simp [lcp]
  | n + 1, a :: x, b :: y, m, h1, h2, h3, h4, h5 => by
    unfold lcp
    cases m with
    | zero =>
      rcases h5 with h5 | h5 | h5 | h5
      · omega
      · simp at h5
      · simp at h5
      · rw [if_neg (by simpa using h5)]
    | succ m =>
      have e : a = b := by simpa using h4 0 (by omega)
      rw [if_pos e, lcp_eq n x y m (by omega) (by simpa using h2) (by simpa using h3) (fun k hk => by simpa using h4 (k + 1) (by omega)) (by
        rcases h5 with h5 | h5 | h5 | h5
        · left; omega
        · right; left; simpa using h5
        · right; right; left; simpa using h5
        · right; right; right; simpa using h5)]
theorem sm_le (l : List UInt8) (i j : Nat) : sm l i j ≤ 131 ∧ sm l i j ≤ l.length - i ∧ sm l i j ≤ l.length - j := by
  have := lcp_le 131 (l.drop i) (l.drop j)
  simpa [sm] using this
theorem sm_get (l : List UInt8) (i j k : Nat) (h : k < sm l i j) : l[i + k]? = l[j + k]? := by
  have := lcp_get 131 (l.drop i) (l.drop j) k h
  simpa using this
theorem sm_eq (l : List UInt8) (i j m : Nat) (hij : j ≤ i) (h1 : m ≤ 131) (h2 : i + m ≤ l.length) (h4 : ∀ k, k < m → l[i + k]? = l[j + k]?) (h5 : m = 131 ∨ i + m = l.length ∨ l[i + m]? ≠ l[j + m]?) : sm l i j = m := by
  unfold sm
  refine lcp_eq 131 _ _ m h1 (by simp; omega) (by simp; omega) (fun k hk => by simpa using h4 k hk) ?_
  rcases h5 with h5 | h5 | h5
  · exact .inl h5
  · right; left; simp; omega
  · right; right; right; simpa using h5
theorem bst_le (l : List UInt8) (i : Nat) : ∀ k, (bst l i k).1 ≤ 131 ∧ (bst l i k).1 ≤ l.length - i ∧ (bst l i k).2 ≤ k
  | 0 => by simp [bst]
  | k + 1 => by
    unfold bst
    have := bst_le l i k
    have := sm_le l i (i - (k + 1))
    split
    · simp; omega
    · omega
theorem bst_pos (l : List UInt8) (i : Nat) : ∀ k, 0 < (bst l i k).1 → 0 < (bst l i k).2 ∧ (bst l i k).1 = sm l i (i - (bst l i k).2)
  | 0, h => by simp [bst] at h
  | k + 1, h => by
    unfold bst at h ⊢
    by_cases c : (bst l i k).1 < sm l i (i - (k + 1))
    · rw [if_pos c]
      exact ⟨by simp, rfl⟩
    · rw [if_neg c] at h ⊢
      exact bst_pos l i k h
/-- the best place is a place ahead, of as many bytes alike -/
theorem best_ok (l : List UInt8) (i : Nat) (h : ¬ (best l i).1 < 4) : (best l i).1 ≤ 131 ∧ i + (best l i).1 ≤ l.length ∧ 1 ≤ (best l i).2 ∧ (best l i).2 ≤ i ∧ (best l i).2 ≤ 65535 ∧ ∀ k, k < (best l i).1 → l[i + k]? = l[i - (best l i).2 + k]? := by
  have a := bst_le l i (min i 65535)
  have b := bst_pos l i (min i 65535) (by unfold best at h; omega)
  unfold best at *
  refine ⟨a.1, by omega, b.1, by omega, by omega, fun k hk => sm_get l i _ k (by rw [← b.2]; exact hk)⟩
/-! unpacking -/
/-- what came out, or why it doesn't -/
abbrev Res := Nat × List UInt8
def cp (far : Nat) : Nat → List UInt8 → List UInt8
  | 0, out => out
  | n + 1, out => cp far n (out ++ [out.getD (out.length - far) 0])
theorem cp_len (far : Nat) : ∀ n out, (cp far n out).length = out.length + n
  | 0, out => rfl
  | n + 1, out => by
    unfold cp
    rw [cp_len far n]
    simp
    omega
theorem cp_pre (far : Nat) : ∀ n out, out <+: cp far n out
  | 0, out => List.prefix_refl _
  | n + 1, out => by
    unfold cp
    exact (List.prefix_append _ _).trans (cp_pre far n _)
def un (most : Int) : Nat → List UInt8 → List UInt8 → Res
  | 0, _, out => (0, out)
  | _ + 1, [], out => (0, out)
  | f + 1, c :: t, out =>
    if c.toNat < 128 then
      if t.length < c.toNat + 1 then (4, [])
      else if most < (out.length + (c.toNat + 1) : Nat) then (6, [])
      else un most f (t.drop (c.toNat + 1)) (out ++ t.take (c.toNat + 1))
    else match t with
      | x :: y :: t' =>
        if x.toNat + 256 * y.toNat = 0 ∨ out.length < x.toNat + 256 * y.toNat then (3, [])
        else if most < (out.length + (c.toNat - 124) : Nat) then (6, [])
        else un most f t' (cp (x.toNat + 256 * y.toNat) (c.toNat - 124) out)
      | _ => (4, [])
theorem un_any (most : Int) : ∀ (f g : Nat) (b out : List UInt8), b.length ≤ f → b.length ≤ g → un most f b out = un most g b out
  | 0, 0, _, _, _, _ => rfl
  | 0, g + 1, [], _, _, _ => rfl
  | 0, g + 1, _ :: _, _, h, _ => by simp at h
  | f + 1, 0, [], _, _, _ => rfl
  | f + 1, 0, _ :: _, _, _, h => by simp at h
  | f + 1, g + 1, [], _, _, _ => rfl
  | f + 1, g + 1, c :: t, out, h, h' => by
    simp at h h'
    unfold un
    split
    · split
      · rfl
      · split
        · rfl
        · exact un_any most f g _ _ (by simp; omega) (by simp; omega)
    · cases t with
      | nil => rfl
      | cons x t =>
        cases t with
        | nil => rfl
        | cons y t =>
          simp at h h'
          dsimp only
          split
          · rfl
          · split
            · rfl
            · exact un_any most f g _ _ (by omega) (by omega)
/-- what comes out of bytes behind those that did -/
def una (most : Int) (b out : List UInt8) : Res := un most b.length b out
def unpack (most : Int) (b : List UInt8) : Res := if most < 0 ∧ b = [] then (6, []) else una most b []
theorem una_nil (most : Int) (out : List UInt8) : una most [] out = (0, out) := rfl
theorem una_run (most : Int) (c : UInt8) (t out : List UInt8) (hc : c.toNat < 128) : una most (c :: t) out =
    if t.length < c.toNat + 1 then (4, []) else if most < (out.length + (c.toNat + 1) : Nat) then (6, []) else una most (t.drop (c.toNat + 1)) (out ++ t.take (c.toNat + 1)) := by
  unfold una
  conv => lhs; rw [List.length_cons]; unfold un
  rw [if_pos hc]
  by_cases h1 : t.length < c.toNat + 1
  · rw [if_pos h1, if_pos h1]
  · rw [if_neg h1, if_neg h1, un_any most t.length (t.drop (c.toNat + 1)).length _ _ (by simp) (by simp)]
theorem una_copy (most : Int) (c x y : UInt8) (t out : List UInt8) (hc : ¬ c.toNat < 128) : una most (c :: x :: y :: t) out =
    if x.toNat + 256 * y.toNat = 0 ∨ out.length < x.toNat + 256 * y.toNat then (3, []) else if most < (out.length + (c.toNat - 124) : Nat) then (6, []) else una most t (cp (x.toNat + 256 * y.toNat) (c.toNat - 124) out) := by
  unfold una
  conv => lhs; rw [List.length_cons]; unfold un
  rw [if_neg hc]
  dsimp only
  rw [un_any most _ t.length t _ (by simp; omega) (Nat.le_refl _)]
theorem una_short (most : Int) (c : UInt8) (t out : List UInt8) (hc : ¬ c.toNat < 128) (h : t.length < 2) : una most (c :: t) out = (4, []) := by
  unfold una
  conv => lhs; rw [List.length_cons]; unfold un
  rw [if_neg hc]
  match t, h with
  | [], _ => rfl
  | [_], _ => rfl
  | _ :: _ :: _, h => simp at h; omega
/-! there and back -/
theorem una_run_run (most : Int) (rest : List UInt8) (n : Nat) : ∀ (s out : List UInt8), s.length ≤ n → ((out.length + s.length : Nat) : Int) ≤ most → una most (run s ++ rest) out = una most rest (out ++ s) := by
  induction n with
  | zero =>
    intro s out h _
    have : s = [] := by simpa using h
    subst this
    simp [run_nil]
  | succ n ih =>
    intro s out h hm
    by_cases h0 : s = []
    · subst h0; simp [run_nil]
    · have hl : s.length ≠ 0 := by simpa using h0
      by_cases h1 : 128 < s.length
      · rw [run_long s h1, List.cons_append, List.append_assoc, una_run _ _ _ _ (by decide)]
        rw [show (127 : UInt8).toNat = 127 from rfl]
        rw [if_neg (by simp; omega), if_neg (by omega)]
        have e1 : (s.take 128 ++ (run (s.drop 128) ++ rest)).drop (127 + 1) = run (s.drop 128) ++ rest := by
          rw [List.drop_append, List.drop_eq_nil_of_le (by simp; omega), show 127 + 1 - (s.take 128).length = 0 from by simp; omega]
          simp
        have e2 : (s.take 128 ++ (run (s.drop 128) ++ rest)).take (127 + 1) = s.take 128 := by
          rw [List.take_append, show 127 + 1 - (s.take 128).length = 0 from by simp; omega]
          simp [List.take_take]
        rw [e1, e2, ih (s.drop 128) (out ++ s.take 128) (by simp; omega) (by simp; omega), List.append_assoc, List.take_append_drop]
      · have hc : (UInt8.ofNat (s.length - 1)).toNat = s.length - 1 := by rw [UInt8.toNat_ofNat']; omega
        rw [run_short s h0 (by omega), List.cons_append, una_run _ _ _ _ (by omega), hc, show s.length - 1 + 1 = s.length from by omega]
        rw [if_neg (by simp), if_neg (by omega), List.drop_append, List.take_append]
        simp
theorem cp_eq (l out0 : List UInt8) (i far : Nat) (h1 : 1 ≤ far) (h2 : far ≤ i) : ∀ n, i + n ≤ l.length → (∀ k, k < n → l[i + k]? = l[i - far + k]?) → cp far n (out0 ++ l.take i) = out0 ++ l.take (i + n) := by
  intro n
  induction n generalizing i with
  | zero => intro _ _; rfl
  | succ n ih =>
    intro h3 h4
    unfold cp
    have e0 := h4 0 (by omega)
    have hi : i < l.length := by omega
    have e : (out0 ++ l.take i).getD ((out0 ++ l.take i).length - far) 0 = l[i] := by
      rw [List.getD_eq_getElem?_getD, List.getElem?_append_right (by simp; omega)]
      rw [List.getElem?_take_of_lt (by simp; omega)]
      rw [show (out0 ++ l.take i).length - far - out0.length = i - far from by simp; omega]
      simp only [Nat.add_zero] at e0
      rw [← e0]
      simp [hi]
    rw [e, List.append_assoc, ← List.take_succ_eq_append_getElem hi, ih (i + 1) (by omega) (by omega) (fun k hk => by
      have := h4 (k + 1) (by omega)
      rw [show i + 1 + k = i + (k + 1) from by omega, show i + 1 - far + k = i - far + (k + 1) from by omega]
      exact this)]
    rw [show i + 1 + n = i + (n + 1) from by omega]
theorem seg_len (l : List UInt8) (r i : Nat) (h : r ≤ i) (hi : i ≤ l.length) : (seg l r i).length = i - r := by simp [seg]; omega
theorem take_seg (l : List UInt8) (r i : Nat) (h : r ≤ i) : l.take r ++ seg l r i = l.take i := by
  have : l.take r = (l.take i).take r := by rw [List.take_take]; congr 1; omega
  rw [this]
  exact List.take_append_drop _ _
theorem una_pka (l out0 rest : List UInt8) (most : Int) (hm : ((out0.length + l.length : Nat) : Int) ≤ most) : ∀ (n i r : Nat), l.length - i ≤ n → r ≤ i → i ≤ l.length → una most (pka l i r ++ rest) (out0 ++ l.take r) = una most rest (out0 ++ l) := by
  intro n
  induction n with
  | zero =>
    intro i r h0 h1 h2
    rw [pka_end l i r (by omega), una_run_run most rest _ _ _ (Nat.le_refl _) (by simp; omega), List.append_assoc, List.take_append_drop]
  | succ n ih =>
    intro i r h0 h1 h2
    by_cases he : l.length ≤ i
    · rw [pka_end l i r (by omega), una_run_run most rest _ _ _ (Nat.le_refl _) (by simp; omega), List.append_assoc, List.take_append_drop]
    · by_cases hb : (best l i).1 < 4
      · rw [pka_one l i r (by omega) hb]
        exact ih (i + 1) r (by omega) (by omega) (by omega)
      · obtain ⟨b1, b2, b3, b4, b5, b6⟩ := best_ok l i hb
        have hs := seg_len l r i h1 h2
        rw [pka_copy l i r (by omega) hb, List.append_assoc, una_run_run most _ _ _ _ (Nat.le_refl _) (by simp; omega), List.append_assoc, show out0 ++ l.take r ++ seg l r i = out0 ++ l.take i from by rw [List.append_assoc, take_seg l r i h1]]
        generalize (best l i).1 = m at *
        generalize (best l i).2 = far at *
        unfold cop
        show una most (UInt8.ofNat (m + 124) :: UInt8.ofNat (far % 256) :: UInt8.ofNat (far / 256) :: (pka l (i + m) (i + m) ++ rest)) _ = _
        have c0 : (UInt8.ofNat (m + 124)).toNat = m + 124 := by rw [UInt8.toNat_ofNat']; omega
        have c1 : (UInt8.ofNat (far % 256)).toNat = far % 256 := by rw [UInt8.toNat_ofNat']; omega
        have c2 : (UInt8.ofNat (far / 256)).toNat = far / 256 := by rw [UInt8.toNat_ofNat']; omega
        rw [una_copy _ _ _ _ _ _ (by omega), c0, c1, c2, show far % 256 + 256 * (far / 256) = far from by omega, show m + 124 - 124 = m from by omega]
        rw [if_neg (by simp; omega), if_neg (by simp; omega), cp_eq l out0 i far b3 b4 m b2 b6]
        exact ih (i + m) (i + m) (by omega) (Nat.le_refl _) b2
theorem una_pack (l out0 rest : List UInt8) (most : Int) (hm : ((out0.length + l.length : Nat) : Int) ≤ most) : una most (pack l ++ rest) out0 = una most rest (out0 ++ l) := by
  have := una_pka l out0 rest most hm l.length 0 0 (by omega) (Nat.le_refl _) (Nat.zero_le _)
  rw [pka_pack] at this
  simpa using this
theorem unpack_pack (l : List UInt8) (most : Int) (hm : (l.length : Int) ≤ most) : unpack most (pack l) = (0, l) := by
  unfold unpack
  rw [if_neg (by omega)]
  have := una_pack l [] [] most (by simpa using hm)
  rw [List.append_nil, una_nil] at this
  exact this
theorem unpack_two (a b : List UInt8) (most : Int) (hm : ((a.length + b.length : Nat) : Int) ≤ most) : unpack most (pack a ++ pack b) = (0, a ++ b) := by
  unfold unpack
  rw [if_neg (by omega), una_pack a [] _ most (by simp; omega)]
  have := una_pack b ([] ++ a) [] most (by simpa using hm)
  rw [List.append_nil, una_nil] at this
  exact this
/-! too long -/
theorem una_run_more (most : Int) (rest : List UInt8) (n : Nat) : ∀ (s out : List UInt8), s.length ≤ n → s ≠ [] → most < ((out.length + s.length : Nat) : Int) → una most (run s ++ rest) out = (6, []) := by
  induction n with
  | zero =>
    intro s out h h0 _
    exact absurd (by simpa using h) h0
  | succ n ih =>
    intro s out h h0 hm
    have hl : s.length ≠ 0 := by simpa using h0
    by_cases h1 : 128 < s.length
    · rw [run_long s h1, List.cons_append, List.append_assoc, una_run _ _ _ _ (by decide)]
      rw [show (127 : UInt8).toNat = 127 from rfl]
      rw [if_neg (by simp; omega)]
      by_cases h2 : most < ((out.length + (127 + 1) : Nat) : Int)
      · rw [if_pos h2]
      · rw [if_neg h2]
        have e1 : (s.take 128 ++ (run (s.drop 128) ++ rest)).drop (127 + 1) = run (s.drop 128) ++ rest := by
          rw [List.drop_append, List.drop_eq_nil_of_le (by simp; omega), show 127 + 1 - (s.take 128).length = 0 from by simp; omega]
          simp
        have e2 : (s.take 128 ++ (run (s.drop 128) ++ rest)).take (127 + 1) = s.take 128 := by
          rw [List.take_append, show 127 + 1 - (s.take 128).length = 0 from by simp; omega]
          simp [List.take_take]
        rw [e1, e2]
        exact ih (s.drop 128) (out ++ s.take 128) (by simp; omega) (by intro e; have := congrArg List.length e; simp at this; omega) (by simp; omega)
    · have hc : (UInt8.ofNat (s.length - 1)).toNat = s.length - 1 := by rw [UInt8.toNat_ofNat']; omega
      rw [run_short s h0 (by omega), List.cons_append, una_run _ _ _ _ (by omega), hc, show s.length - 1 + 1 = s.length from by omega]
      rw [if_neg (by simp), if_pos hm]
theorem una_pka_more (l : List UInt8) (most : Int) (hm : most < (l.length : Int)) : ∀ (n i r : Nat), l.length - i ≤ n → r ≤ i → i ≤ l.length → (r < l.length) → una most (pka l i r) (l.take r) = (6, []) := by
  intro n
  have fin : ∀ i r, l.length ≤ i → r < l.length → una most (pka l i r) (l.take r) = (6, []) := by
    intro i r he h3
    rw [pka_end l i r (by omega)]
    have := una_run_more most [] _ (l.drop r) (l.take r) (Nat.le_refl _) (by intro e; have := congrArg List.length e; simp at this; omega) (by simp; omega)
    rwa [List.append_nil] at this
  induction n with
  | zero =>
    intro i r h0 h1 h2 h3
    exact fin i r (by omega) h3
  | succ n ih =>
    intro i r h0 h1 h2 h3
    by_cases he : l.length ≤ i
    · exact fin i r he h3
    · by_cases hb : (best l i).1 < 4
      · rw [pka_one l i r (by omega) hb]
        exact ih (i + 1) r (by omega) (by omega) (by omega) h3
      · obtain ⟨b1, b2, b3, b4, b5, b6⟩ := best_ok l i hb
        have hs := seg_len l r i h1 h2
        rw [pka_copy l i r (by omega) hb]
        by_cases hi : r < i ∧ most < (i : Int)
        · refine una_run_more most _ _ (seg l r i) _ (Nat.le_refl _) (by intro e; rw [e] at hs; simp at hs; omega) (by rw [hs]; simp; omega)
        · have key : una most (run (seg l r i) ++ (cop (best l i).1 (best l i).2 ++ pka l (i + (best l i).1) (i + (best l i).1))) (l.take r) = una most (cop (best l i).1 (best l i).2 ++ pka l (i + (best l i).1) (i + (best l i).1)) (l.take i) := by
            by_cases hr : r < i
            · rw [una_run_run most _ _ _ _ (Nat.le_refl _) (by rw [hs]; simp; omega), take_seg l r i h1]
            · obtain rfl : r = i := by omega
              have : seg l r r = [] := List.eq_nil_of_length_eq_zero (by rw [hs]; omega)
              rw [this, run_nil, List.nil_append]
          rw [key]
          clear key
          generalize (best l i).1 = m at *
          generalize (best l i).2 = far at *
          unfold cop
          show una most (UInt8.ofNat (m + 124) :: UInt8.ofNat (far % 256) :: UInt8.ofNat (far / 256) :: (pka l (i + m) (i + m))) _ = _
          have c0 : (UInt8.ofNat (m + 124)).toNat = m + 124 := by rw [UInt8.toNat_ofNat']; omega
          have c1 : (UInt8.ofNat (far % 256)).toNat = far % 256 := by rw [UInt8.toNat_ofNat']; omega
          have c2 : (UInt8.ofNat (far / 256)).toNat = far / 256 := by rw [UInt8.toNat_ofNat']; omega
          rw [una_copy _ _ _ _ _ _ (by omega), c0, c1, c2, show far % 256 + 256 * (far / 256) = far from by omega, show m + 124 - 124 = m from by omega]
          rw [if_neg (by simp; omega)]
          by_cases h6 : most < (((l.take i).length + m : Nat) : Int)
          · rw [if_pos h6]
          · rw [if_neg h6]
            have := cp_eq l [] i far b3 b4 m b2 b6
            rw [List.nil_append, List.nil_append] at this
            rw [this]
            exact ih (i + m) (i + m) (by omega) (Nat.le_refl _) b2 (by simp at h6; omega)
theorem unpack_more (l : List UInt8) (most : Int) (hm : most < (l.length : Int)) : unpack most (pack l) = (6, []) := by
  unfold unpack
  by_cases h0 : l = []
  · subst h0
    rw [if_pos ⟨by simpa using hm, rfl⟩]
  · have hl : l.length ≠ 0 := by simpa using h0
    by_cases hc : most < 0 ∧ pack l = []
    · rw [if_pos hc]
    · rw [if_neg hc]
      exact una_pka_more l most hm l.length 0 0 (by omega) (Nat.le_refl _) (Nat.zero_le _) (by omega)
/-! cut short -/
theorem una_cut (most : Int) : ∀ (n : Nat) (b out res : List UInt8), b.length ≤ n → una most b out = (0, res) → out <+: res ∧ ∀ k, una most (b.take k) out = (4, []) ∨ ∃ r, una most (b.take k) out = (0, r) ∧ out <+: r ∧ r <+: res := by
  intro n
  induction n with
  | zero =>
    intro b out res h hu
    have : b = [] := by simpa using h
    subst this
    rw [una_nil] at hu
    cases hu
    exact ⟨List.prefix_refl _, fun k => .inr ⟨out, by rw [List.take_nil, una_nil], List.prefix_refl _, List.prefix_refl _⟩⟩
  | succ n ih =>
    intro b out res h hu
    cases b with
    | nil =>
      rw [una_nil] at hu
      cases hu
      exact ⟨List.prefix_refl _, fun k => .inr ⟨out, by rw [List.take_nil, una_nil], List.prefix_refl _, List.prefix_refl _⟩⟩
    | cons c t =>
      simp at h
      by_cases hc : c.toNat < 128
      · rw [una_run _ _ _ _ hc] at hu
        by_cases h1 : t.length < c.toNat + 1
        · rw [if_pos h1] at hu; cases hu
        · rw [if_neg h1] at hu
          by_cases h2 : most < ((out.length + (c.toNat + 1) : Nat) : Int)
          · rw [if_pos h2] at hu; cases hu
          · rw [if_neg h2] at hu
            obtain ⟨p, q⟩ := ih _ _ _ (by simp; omega) hu
            refine ⟨(List.prefix_append _ _).trans p, fun k => ?_⟩
            cases k with
            | zero => exact .inr ⟨out, by rw [List.take_zero, una_nil], List.prefix_refl _, (List.prefix_append _ _).trans p⟩
            | succ k =>
              rw [List.take_succ_cons, una_run _ _ _ _ hc]
              by_cases h3 : (t.take k).length < c.toNat + 1
              · rw [if_pos h3]; exact .inl rfl
              · rw [if_neg h3, if_neg h2]
                simp only [List.length_take] at h3
                rw [List.drop_take, List.take_take, show min (c.toNat + 1) k = c.toNat + 1 from by omega]
                rcases q (k - (c.toNat + 1)) with q | ⟨r, q1, q2, q3⟩
                · exact .inl q
                · exact .inr ⟨r, q1, (List.prefix_append _ _).trans q2, q3⟩
      · match t, h, hu with
        | [], h, hu => rw [una_short _ _ _ _ hc (by simp)] at hu; cases hu
        | [x], h, hu => rw [una_short _ _ _ _ hc (by simp)] at hu; cases hu
        | x :: y :: t, h, hu =>
          simp at h
          rw [una_copy _ _ _ _ _ _ hc] at hu
          by_cases h1 : x.toNat + 256 * y.toNat = 0 ∨ out.length < x.toNat + 256 * y.toNat
          · rw [if_pos h1] at hu; cases hu
          · rw [if_neg h1] at hu
            by_cases h2 : most < ((out.length + (c.toNat - 124) : Nat) : Int)
            · rw [if_pos h2] at hu; cases hu
            · rw [if_neg h2] at hu
              obtain ⟨p, q⟩ := ih _ _ _ (by omega) hu
              refine ⟨(cp_pre _ _ _).trans p, fun k => ?_⟩
              match k with
              | 0 => exact .inr ⟨out, by rw [List.take_zero, una_nil], List.prefix_refl _, (cp_pre _ _ _).trans p⟩
              | 1 => exact .inl (by rw [List.take_succ_cons, List.take_zero, una_short _ _ _ _ hc (by simp)])
              | 2 => exact .inl (by rw [List.take_succ_cons, List.take_succ_cons, List.take_zero, una_short _ _ _ _ hc (by simp)])
              | k + 3 =>
                rw [List.take_succ_cons, List.take_succ_cons, List.take_succ_cons, una_copy _ _ _ _ _ _ hc, if_neg h1, if_neg h2]
                rcases q k with q | ⟨r, q1, q2, q3⟩
                · exact .inl q
                · exact .inr ⟨r, q1, (cp_pre _ _ _).trans q2, q3⟩
theorem unpack_cut (l : List UInt8) (k : Nat) : unpack l.length ((pack l).take k) = (4, []) ∨ ∃ r, unpack l.length ((pack l).take k) = (0, r) ∧ r <+: l := by
  have h := unpack_pack l l.length (Int.le_refl _)
  unfold unpack at h ⊢
  rw [if_neg (by omega)] at h
  rw [if_neg (by omega)]
  rcases (una_cut l.length _ _ _ _ (Nat.le_refl _) h).2 k with q | ⟨r, q1, _, q3⟩
  · exact .inl q
  · exact .inr ⟨r, q1, q3⟩
/-! how long -/
theorem pka_len (l : List UInt8) : ∀ (n i r : Nat), l.length - i ≤ n → r ≤ i → i ≤ l.length → (pka l i r).length ≤ (l.length - r) + (l.length - r + 127) / 128 := by
  intro n
  induction n with
  | zero =>
    intro i r h0 h1 h2
    rw [pka_end l i r (by omega), run_length _ _ (Nat.le_refl _)]
    simp
  | succ n ih =>
    intro i r h0 h1 h2
    by_cases he : l.length ≤ i
    · rw [pka_end l i r (by omega), run_length _ _ (Nat.le_refl _)]
      simp
    · by_cases hb : (best l i).1 < 4
      · rw [pka_one l i r (by omega) hb]
        exact ih (i + 1) r (by omega) (by omega) (by omega)
      · obtain ⟨b1, b2, -⟩ := best_ok l i hb
        have hs := seg_len l r i h1 h2
        have := ih (i + (best l i).1) (i + (best l i).1) (by omega) (Nat.le_refl _) b2
        rw [pka_copy l i r (by omega) hb]
        simp only [List.length_append, run_length _ _ (Nat.le_refl _), hs]
        have e : (cop (best l i).1 (best l i).2).length = 3 := rfl
        rw [e]
        omega
theorem pack_len (l : List UInt8) : (pack l).length ≤ l.length + (l.length + 127) / 128 := by
  have := pka_len l l.length 0 0 (by omega) (Nat.le_refl _) (Nat.zero_le _)
  rw [pka_pack] at this
  simpa using this
/-! one byte over and over -/
theorem sm_rep (n : Nat) (c : UInt8) (i j : Nat) (h : j ≤ i) (hi : i ≤ n) : sm (List.replicate n c) i j = min 131 (n - i) := by
  refine sm_eq _ i j _ h (by omega) (by simp; omega) (fun k hk => ?_) ?_
  · rw [List.getElem?_replicate, List.getElem?_replicate, if_pos (by omega), if_pos (by omega)]
  · by_cases h : n - i ≤ 131
    · right; left; simp; omega
    · left; omega
theorem bst_rep (n : Nat) (c : UInt8) (i : Nat) (hi : i ≤ n) : ∀ k, 1 ≤ k → k ≤ i → (bst (List.replicate n c) i k).1 = min 131 (n - i)
  | 0, h, _ => by omega
  | 1, _, h => by
    unfold bst bst
    rw [sm_rep n c i _ (by omega) hi]
    split
    · rfl
    · simp at *; omega
  | k + 2, _, h => by
    have := bst_rep n c i hi (k + 1) (by omega) (by omega)
    unfold bst
    rw [sm_rep n c i _ (by omega) hi, this, if_neg (by omega), this]
theorem best_rep (n : Nat) (c : UInt8) (i : Nat) (h1 : 1 ≤ i) (hi : i ≤ n) : (best (List.replicate n c) i).1 = min 131 (n - i) := bst_rep n c i hi _ (by omega) (by omega)
theorem pka_rep_short (n : Nat) (c : UInt8) : ∀ (m i r : Nat), 1 ≤ i → n - i ≤ m → n - i < 4 → i ≤ n → pka (List.replicate n c) i r = run ((List.replicate n c).drop r) := by
  intro m
  induction m with
  | zero => intro i r _ h _ _; exact pka_end _ _ _ (by simp; omega)
  | succ m ih =>
    intro i r h1 h h4 hi
    by_cases he : n ≤ i
    · exact pka_end _ _ _ (by simp; omega)
    · rw [pka_one _ _ _ (by simp; omega) (by rw [best_rep n c i h1 hi]; omega)]
      exact ih (i + 1) r (by omega) (by omega) (by omega) (by omega)
theorem pka_rep (n : Nat) (c : UInt8) : ∀ (m i : Nat), 1 ≤ i → n - i ≤ m → i ≤ n → (pka (List.replicate n c) i i).length ≤ 3 * ((n - i) / 131) + 4 := by
  intro m
  induction m with
  | zero =>
    intro i _ h hi
    rw [pka_end _ _ _ (by simp; omega), run_length _ _ (Nat.le_refl _)]
    simp
    omega
  | succ m ih =>
    intro i h1 h hi
    by_cases h4 : n - i < 4
    · rw [pka_rep_short n c _ i i h1 (Nat.le_refl _) h4 hi, run_length _ _ (Nat.le_refl _)]
      simp
      omega
    · have hb := best_rep n c i h1 hi
      rw [pka_copy _ _ _ (by simp; omega) (by rw [hb]; omega), hb]
      have hs : seg (List.replicate n c) i i = [] := List.eq_nil_of_length_eq_zero (by rw [seg_len _ _ _ (Nat.le_refl _) (by simp; omega)]; omega)
      rw [hs, run_nil, List.nil_append, List.length_append]
      have e : ∀ x y, (cop x y).length = 3 := fun _ _ => rfl
      rw [e]
      have := ih (i + min 131 (n - i)) (by omega) (by omega) (by omega)
      by_cases hr : n - i < 131
      · rw [show min 131 (n - i) = n - i from by omega] at this ⊢
        rw [pka_end _ _ _ (by simp; omega), run_length _ _ (Nat.le_refl _)]
        simp
        omega
      · rw [show min 131 (n - i) = 131 from by omega] at this ⊢
        omega
theorem pack_rep (n : Nat) (c : UInt8) : (pack (List.replicate n c)).length ≤ 8 + 3 * ((n + 129) / 131) := by
  rw [← pka_pack]
  by_cases h0 : n = 0
  · subst h0; simp [pka_pack, pack, pk, run_nil]
  · have b0 : (best (List.replicate n c) 0).1 < 4 := by simp [best, bst]
    rw [pka_one _ _ _ (by simp; omega) b0]
    by_cases h4 : n - 1 < 4
    · rw [pka_rep_short n c _ 1 0 (by omega) (Nat.le_refl _) h4 (by omega), run_length _ _ (Nat.le_refl _)]
      simp
      omega
    · have hb := best_rep n c 1 (by omega) (by omega)
      rw [pka_copy _ _ _ (by simp; omega) (by simp only [Nat.zero_add]; rw [hb]; omega)]
      simp only [Nat.zero_add]
      rw [hb]
      have hs : (seg (List.replicate n c) 0 1).length = 1 := seg_len _ _ _ (by omega) (by simp; omega)
      simp only [List.length_append, run_length _ _ (Nat.le_refl _), hs]
      have e : ∀ x y, (cop x y).length = 3 := fun _ _ => rfl
      rw [e]
      have := pka_rep n c _ (1 + min 131 (n - 1)) (by omega) (Nat.le_refl _) (by omega)
      omega
theorem six : pack [97, 97, 97, 97, 97, 97] = [0, 97, 129, 1, 0] := by decide +kernel
/-! places that begin alike, the nearest one first -/
def wd (l : List UInt8) (j : Nat) : List UInt8 := (l.drop j).take 4
def prv (l : List UInt8) (w : List UInt8) : Nat → Int
  | 0 => -1
  | j + 1 => if wd l j = w then (j : Int) else prv l w j
theorem prv_bd (l : List UInt8) (w : List UInt8) : ∀ j, -1 ≤ prv l w j ∧ prv l w j < j
  | 0 => by simp [prv]
  | j + 1 => by
    unfold prv
    have := prv_bd l w j
    split <;> omega
theorem prv_wd (l : List UInt8) (w : List UInt8) : ∀ j, prv l w j = -1 ∨ wd l (prv l w j).toNat = w
  | 0 => by simp [prv]
  | j + 1 => by
    unfold prv
    by_cases h : wd l j = w
    · rw [if_pos h]
      exact .inr (by simpa using h)
    · rw [if_neg h]
      exact prv_wd l w j
theorem prv_no (l : List UInt8) (w : List UInt8) : ∀ j (q : Nat), prv l w j < q → q < j → wd l q ≠ w
  | 0, _, _, h => by omega
  | j + 1, q, h1, h2 => by
    unfold prv at h1
    by_cases h : wd l j = w
    · rw [if_pos h] at h1
      omega
    · rw [if_neg h] at h1
      by_cases e : q = j
      · subst e; exact h
      · exact prv_no l w j q h1 (by omega)
theorem wd_alike (l : List UInt8) (i j : Nat) (hij : j ≤ i) (hi : i + 4 ≤ l.length) : 4 ≤ sm l i j ↔ wd l j = wd l i := by
  constructor
  · intro h
    apply List.ext_getElem?
    intro k
    unfold wd
    by_cases hk : k < 4
    · rw [List.getElem?_take_of_lt hk, List.getElem?_take_of_lt hk, List.getElem?_drop, List.getElem?_drop]
      exact (sm_get l i j k (by omega)).symm
    · rw [List.getElem?_eq_none (by simp; omega), List.getElem?_eq_none (by simp; omega)]
  · intro h
    rcases Nat.lt_or_ge (sm l i j) 4 with c | c
    · have hs := sm_le l i j
      have e : ∀ k, k < 4 → l[i + k]? = l[j + k]? := by
        intro k hk
        have := congrArg (fun x : List UInt8 => x[k]?) h
        unfold wd at this
        simp only [List.getElem?_take_of_lt hk, List.getElem?_drop] at this
        exact this.symm
      exfalso
      -- what stands behind those that are alike isn't alike
      have key : ∀ (n : Nat) (x y : List UInt8), lcp n x y = n ∨ x.length = lcp n x y ∨ y.length = lcp n x y ∨ x[lcp n x y]? ≠ y[lcp n x y]? := by
        intro n
        induction n with
        | zero => intro x y; left; simp [lcp]
        | succ n ih =>
          intro x y
          match x, y with
          | [], _ => right; left; simp [lcp]
          | _ :: _, [] => right; right; left; simp [lcp]
          | a :: x, b :: y =>
            by_cases e : a = b
            · have : lcp (n + 1) (a :: x) (b :: y) = lcp n x y + 1 := by simp [lcp, e]
              rw [this]
              rcases ih x y with q | q | q | q
              · left; omega
              · right; left; simpa using q
              · right; right; left; simpa using q
              · right; right; right; simpa using q
            · have : lcp (n + 1) (a :: x) (b :: y) = 0 := by simp [lcp, e]
              rw [this]
              right; right; right; simpa using e
      have := key 131 (l.drop i) (l.drop j)
      unfold sm at c hs
      rcases this with q | q | q | q
      · omega
      · simp at q; omega
      · simp at q; omega
      · rw [List.getElem?_drop, List.getElem?_drop] at q
        exact q (e _ c)
    · exact c
/-- the best place, if it is worth a copy -/
def b4 (l : List UInt8) (i k : Nat) : Nat × Nat := if (bst l i k).1 < 4 then (0, 0) else bst l i k
theorem b4_skip (l : List UInt8) (i k : Nat) (hi : i + 4 ≤ l.length) (h : wd l (i - (k + 1)) ≠ wd l i) : b4 l i (k + 1) = b4 l i k := by
  have hs : ¬ 4 ≤ sm l i (i - (k + 1)) := fun c => h ((wd_alike l i _ (by omega) hi).1 c)
  unfold b4
  conv => lhs; unfold bst
  by_cases c : (bst l i k).1 < sm l i (i - (k + 1))
  · rw [if_pos c, if_pos (by simp; omega), if_pos (by omega)]
  · rw [if_neg c]
theorem b4_take (l : List UInt8) (i k : Nat) (hi : i + 4 ≤ l.length) (h : wd l (i - (k + 1)) = wd l i) : b4 l i (k + 1) = if (b4 l i k).1 < sm l i (i - (k + 1)) then (sm l i (i - (k + 1)), k + 1) else b4 l i k := by
  have hs : 4 ≤ sm l i (i - (k + 1)) := (wd_alike l i _ (by omega) hi).2 h
  unfold b4
  conv => lhs; unfold bst
  by_cases c : (bst l i k).1 < sm l i (i - (k + 1))
  · rw [if_pos c, if_neg (by simp; omega), if_pos]
    split
    · simp; omega
    · exact c
  · rw [if_neg c, if_neg (by omega), if_neg c]
theorem b4_skips (l : List UInt8) (i k : Nat) (hi : i + 4 ≤ l.length) : ∀ n, (∀ q, i - (k + n) ≤ q → q < i - k → wd l q ≠ wd l i) → k + n ≤ i → b4 l i (k + n) = b4 l i k
  | 0, _, _ => rfl
  | n + 1, h, hn => by
    rw [show k + (n + 1) = (k + n) + 1 from rfl, b4_skip l i (k + n) hi (h _ (by omega) (by omega)), b4_skips l i k hi n (fun q h1 h2 => h q (by omega) h2) (by omega)]
/-- where the search stands: at j, with the best so far -/
structure At (l : List UInt8) (i : Nat) (j : Int) (p : Nat × Nat) : Prop where
  ex : ∃ k, k ≤ i ∧ k ≤ 65535 ∧ p = b4 l i k ∧ (k : Int) ≤ i - j - 1 ∧ ∀ q : Nat, j < q → q < i - k → wd l q ≠ wd l i
  wd : j = -1 ∨ wd l j.toNat = wd l i
  lo : -1 ≤ j
  hi : j < i
theorem at_start (l : List UInt8) (i : Nat) : At l i (prv l (wd l i) i) (0, 0) := by
  have b := prv_bd l (wd l i) i
  exact ⟨⟨0, by omega, by omega, by simp [b4, bst], by omega, fun q h1 h2 => prv_no l _ i q h1 (by omega)⟩, prv_wd l _ i, b.1, b.2⟩
theorem at_next (l : List UInt8) (i j : Nat) (p : Nat × Nat) (hi : i + 4 ≤ l.length) (h : At l i j p) (hf : i - j ≤ 65535) : At l i (prv l (wd l j) j) (if p.1 < sm l i j then (sm l i j, i - j) else p) := by
  obtain ⟨⟨k, h1, h2, rfl, h3, h4⟩, hw, h5, h6⟩ := h
  have hw' : wd l j = wd l i := by
    rcases hw with hw | hw
    · omega
    · simpa using hw
  have b := prv_bd l (wd l j) j
  have e : b4 l i (i - j - 1) = b4 l i k := by
    have := b4_skips l i k hi (i - j - 1 - k) (fun q a b => h4 q (by omega) b) (by omega)
    rwa [show k + (i - j - 1 - k) = i - j - 1 from by omega] at this
  have t := b4_take l i (i - j - 1) hi (by rw [show i - (i - j - 1 + 1) = j from by omega]; exact hw')
  rw [show i - (i - j - 1 + 1) = j from by omega, show i - j - 1 + 1 = i - j from by omega, e] at t
  refine ⟨⟨i - j, by omega, hf, t.symm, by omega, fun q a c => ?_⟩, ?_, b.1, by omega⟩
  · rw [← hw']
    exact prv_no l _ j q a (by omega)
  · rw [← hw']
    exact prv_wd l _ j
theorem b4_mono (l : List UInt8) (i k : Nat) (h : min 131 (l.length - i) ≤ (b4 l i k).1) : ∀ n, b4 l i (k + n) = b4 l i k
  | 0 => rfl
  | n + 1 => by
    have ih := b4_mono l i k h n
    have hs := sm_le l i (i - (k + n + 1))
    rw [← ih] at h ⊢
    rw [show k + (n + 1) = k + n + 1 from rfl]
    unfold b4 at h ⊢
    conv => lhs; unfold bst
    by_cases c : (bst l i (k + n)).1 < 4
    · rw [if_pos c] at h
      simp at h
      by_cases d : (bst l i (k + n)).1 < sm l i (i - (k + n + 1))
      · rw [if_pos d, if_pos c, if_pos (by simp; omega)]
      · rw [if_neg d]
    · rw [if_neg c] at h
      rw [if_neg (show ¬ (bst l i (k + n)).1 < sm l i (i - (k + n + 1)) from by omega)]
/-- what the code's search tells -/
def fnd (l : List UInt8) (i : Nat) : Nat × Nat := if (best l i).1 < 4 then (0, 0) else best l i
theorem fnd_yes (l : List UInt8) (i : Nat) (h : ¬ (best l i).1 < 4) : fnd l i = best l i := if_neg h
theorem fnd_no (l : List UInt8) (i : Nat) (h : (best l i).1 < 4) : fnd l i = (0, 0) := if_pos h
theorem fnd_end (l : List UInt8) (i : Nat) (h : l.length < i + 4) : fnd l i = (0, 0) := by
  have := bst_le l i (min i 65535)
  exact fnd_no l i (by unfold best; omega)
theorem at_end (l : List UInt8) (i : Nat) (j : Int) (p : Nat × Nat) (hi : i + 4 ≤ l.length) (h : At l i j p) (he : j < 0 ∨ 65535 < i - j ∨ min 131 (l.length - i) ≤ p.1) : p = fnd l i := by
  obtain ⟨⟨k, h1, h2, rfl, h3, h4⟩, hw, h5, h6⟩ := h
  show _ = b4 l i (min i 65535)
  rcases he with he | he | he
  · have := b4_skips l i k hi (min i 65535 - k) (fun q a b => h4 q (by omega) b) (by omega)
    rw [← this, show k + (min i 65535 - k) = min i 65535 from by omega]
  · have := b4_skips l i k hi (min i 65535 - k) (fun q a b => h4 q (by omega) b) (by omega)
    rw [← this, show k + (min i 65535 - k) = min i 65535 from by omega]
  · have := b4_mono l i k he (min i 65535 - k)
    rw [← this, show k + (min i 65535 - k) = min i 65535 from by omega]
theorem at_bd (l : List UInt8) (i : Nat) (j : Int) (p : Nat × Nat) (h : At l i j p) : p.1 ≤ 131 ∧ p.2 ≤ 65535 ∧ p.1 ≤ l.length - i := by
  obtain ⟨⟨k, h1, h2, rfl, h3, h4⟩, -⟩ := h
  have := bst_le l i k
  unfold b4
  split
  · simp
  · omega
end Lz
end Go.Proofs.YtoggibooinhomaaDoor.Z
