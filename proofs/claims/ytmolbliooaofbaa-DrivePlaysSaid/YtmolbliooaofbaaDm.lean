/-
  THE PLAIN MATHEMATICS of drives: blocks, pending writes, what a flush and a crash make of them.
-/
import Derived.Test.YtmolbliooaofbaaProg
namespace Go.Proofs.Ytmolbliooaofbaa
namespace Dm
abbrev Wr := Int × ByteArray
def nth (l : List ByteArray) (k : Nat) : ByteArray := l.getD k ⟨#[]⟩
def wnth (l : List Wr) (k : Nat) : Wr := l.getD k (0, ⟨#[]⟩)
/-- a drive -/
structure Dr where
  B : List ByteArray
  P : List Wr
  left : Int
/-- a drive that may be -/
structure Ok (d : Dr) : Prop where
  n : d.B.length ≤ 256
  b : ∀ t ∈ d.B, t.size = 128
  p : ∀ w ∈ d.P, (0 ≤ w.1 ∧ w.1 < (d.B.length : Int)) ∧ w.2.size = 128
def setI (B : List ByteArray) (i : Int) (t : ByteArray) : List ByteArray := B.set i.toNat t
def getM (B : List ByteArray) (P : List Wr) (k : Nat) : ByteArray := P.foldl (fun s w => if w.1 = (k : Int) then w.2 else s) (nth B k)
def flushM (B : List ByteArray) (P : List Wr) : List ByteArray := P.foldl (fun B w => setI B w.1 w.2) B
theorem setI_length (B : List ByteArray) (i : Int) (t : ByteArray) : (setI B i t).length = B.length := List.length_set
theorem flush_length (P : List Wr) : ∀ B, (flushM B P).length = B.length := by
  induction P with
  | nil => intro B; rfl
  | cons w P ih => intro B; exact (ih _).trans (setI_length _ _ _)
theorem nth_set {B : List ByteArray} {i k : Nat} {t : ByteArray} (hk : i < B.length) : nth (B.set i t) k = if i = k then t else nth B k := by
  unfold nth
  rw [List.getD_eq_getElem?_getD, List.getD_eq_getElem?_getD, List.getElem?_set]
  by_cases h : i = k
  · subst h; rw [if_pos rfl, if_pos hk, if_pos rfl]; rfl
  · rw [if_neg h, if_neg h]
theorem nth_setI {B : List ByteArray} {i : Int} {k : Nat} {t : ByteArray} (h0 : 0 ≤ i) (hk : i < (B.length : Int)) : nth (setI B i t) k = if i = (k : Int) then t else nth B k := by
  unfold setI
  rw [nth_set (by omega)]
  by_cases h : i = (k : Int)
  · rw [if_pos (by omega), if_pos h]
  · rw [if_neg (by omega), if_neg h]
theorem flush_get (P : List Wr) : ∀ (B : List ByteArray) (k : Nat), (∀ w ∈ P, 0 ≤ w.1 ∧ w.1 < (B.length : Int)) → nth (flushM B P) k = getM B P k := by
  induction P with
  | nil => intro B k h; rfl
  | cons w P ih =>
    intro B k h
    obtain ⟨h0, h1⟩ := h w (List.mem_cons_self ..)
    refine (ih _ k (fun x hx => by rw [setI_length]; exact h x (List.mem_cons_of_mem _ hx))).trans ?_
    unfold getM
    rw [nth_setI h0 h1]
    rfl
/-- the last pending write of a block -/
theorem get_app (B : List ByteArray) (P : List Wr) (w : Wr) (k : Nat) : getM B (P ++ [w]) k = if w.1 = (k : Int) then w.2 else getM B P k := by
  unfold getM; rw [List.foldl_append]; rfl
theorem take_wnth {P : List Wr} {n : Nat} (hn : n < P.length) : P.take (n + 1) = P.take n ++ [wnth P n] := by
  rw [List.take_add_one, List.getElem?_eq_getElem hn]
  unfold wnth
  rw [List.getD_eq_getElem?_getD, List.getElem?_eq_getElem hn]
  rfl
/-- what is got from behind: the first that is met from the end -/
theorem get_take (B : List ByteArray) (P : List Wr) (k : Nat) : ∀ (m n : Nat), n + m = P.length → (∀ j, n ≤ j → j < P.length → (wnth P j).1 ≠ (k : Int)) → getM B P k = getM B (P.take n) k
  | 0, n, hn, _ => by rw [List.take_of_length_le (by omega)]
  | m + 1, n, hn, h => by
    rw [get_take B P k m (n + 1) (by omega) (fun j h1 h2 => h j (by omega) h2), take_wnth (by omega), get_app, if_neg (h n (Nat.le_refl _) (by omega))]
theorem get_none {B : List ByteArray} {P : List Wr} {k : Nat} (h : ∀ j, j < P.length → (wnth P j).1 ≠ (k : Int)) : getM B P k = nth B k :=
  (get_take B P k P.length 0 (by omega) (fun j _ hj => h j hj)).trans rfl
theorem get_last {B : List ByteArray} {P : List Wr} {k n : Nat} (hn : n < P.length) (hw : (wnth P n).1 = (k : Int)) (h : ∀ j, n < j → j < P.length → (wnth P j).1 ≠ (k : Int)) : getM B P k = (wnth P n).2 := by
  rw [get_take B P k (P.length - (n + 1)) (n + 1) (by omega) (fun j h1 h2 => h j (by omega) h2), take_wnth hn, get_app, if_pos hw]
def less (n : Int) : Int := if 0 < n then n - 1 else n
/-- what becomes of a block -/
def become (p : Nat) (was data : ByteArray) : ByteArray := if p = 1 then data else if p = 2 then data.extract 0 64 ++ was.extract 64 was.size else was
def pickM (K : List Int) (n : Nat) : Nat := if n < K.length then (((K.getD n 0).tmod 3 + 3).tmod 3).toNat else 0
theorem pick_lt (K : List Int) (n : Nat) : pickM K n < 3 := by
  unfold pickM
  split
  · have := Int.tmod_lt_of_pos ((K.getD n 0).tmod 3 + 3) (show (0 : Int) < 3 by decide)
    omega
  · decide
def crashM (B : List ByteArray) (K : List Int) : Nat → List Wr → List ByteArray
  | _, [] => B
  | n, w :: P => crashM (setI B w.1 (become (pickM K n) (nth B w.1.toNat) w.2)) K (n + 1) P
theorem crash_length (K : List Int) (P : List Wr) : ∀ (B : List ByteArray) (n : Nat), (crashM B K n P).length = B.length := by
  induction P with
  | nil => intro B n; rfl
  | cons w P ih => intro B n; exact (ih _ _).trans (setI_length _ _ _)
theorem become_size {p : Nat} {a d : ByteArray} (ha : a.size = 128) (hd : d.size = 128) : (become p a d).size = 128 := by
  unfold become
  by_cases h1 : p = 1
  · rw [if_pos h1]; exact hd
  · rw [if_neg h1]
    by_cases h2 : p = 2
    · rw [if_pos h2, ByteArray.size_append, ByteArray.size_extract, ByteArray.size_extract]; omega
    · rw [if_neg h2]; exact ha
theorem nth_mem {B : List ByteArray} {k : Nat} (h : k < B.length) : nth B k ∈ B := by
  unfold nth
  rw [List.getD_eq_getElem?_getD, List.getElem?_eq_getElem h]
  exact List.getElem_mem h
theorem mem_nth {B : List ByteArray} {t : ByteArray} (h : t ∈ B) : ∃ k, k < B.length ∧ nth B k = t := by
  obtain ⟨k, hk, rfl⟩ := List.getElem_of_mem h
  refine ⟨k, hk, ?_⟩
  unfold nth
  rw [List.getD_eq_getElem?_getD, List.getElem?_eq_getElem hk]
  rfl
theorem wnth_mem {P : List Wr} {k : Nat} (h : k < P.length) : wnth P k ∈ P := by
  unfold wnth
  rw [List.getD_eq_getElem?_getD, List.getElem?_eq_getElem h]
  exact List.getElem_mem h
theorem mem_setI {B : List ByteArray} {i : Int} {t x : ByteArray} (h : x ∈ setI B i t) : x ∈ B ∨ x = t := by
  unfold setI at h; exact List.mem_or_eq_of_mem_set h
theorem ok_set {B : List ByteArray} {i : Int} {t : ByteArray} (hb : ∀ x ∈ B, x.size = 128) (ht : t.size = 128) : ∀ x ∈ setI B i t, x.size = 128 := by
  intro x hx
  rcases mem_setI hx with h | h
  · exact hb x h
  · rw [h]; exact ht
theorem crash_sizes (K : List Int) (P : List Wr) : ∀ (B : List ByteArray) (n : Nat), (∀ x ∈ B, x.size = 128) → (∀ w ∈ P, (0 ≤ w.1 ∧ w.1 < (B.length : Int)) ∧ w.2.size = 128) → ∀ x ∈ crashM B K n P, x.size = 128 := by
  induction P with
  | nil => intro B n h _; exact h
  | cons w P ih =>
    intro B n h hp
    obtain ⟨⟨h0, h1⟩, h2⟩ := hp w (List.mem_cons_self ..)
    refine ih _ (n + 1) (ok_set h (become_size (h _ (nth_mem (by omega))) h2)) ?_
    intro x hx
    rw [setI_length]
    exact hp x (List.mem_cons_of_mem _ hx)
theorem flush_sizes (P : List Wr) : ∀ (B : List ByteArray), (∀ x ∈ B, x.size = 128) → (∀ w ∈ P, w.2.size = 128) → ∀ x ∈ flushM B P, x.size = 128 := by
  induction P with
  | nil => intro B h _; exact h
  | cons w P ih =>
    intro B h hp
    exact ih _ (ok_set h (hp w (List.mem_cons_self ..))) (fun x hx => hp x (List.mem_cons_of_mem _ hx))
/-- a drive behind a flush, a crash, a put -/
def flushed (d : Dr) : Dr := ⟨flushM d.B d.P, [], less d.left⟩
def crashed (d : Dr) (K : List Int) : Dr := ⟨crashM d.B K 0 d.P, [], -1⟩
def putted (d : Dr) (i : Int) (t : ByteArray) : Dr := ⟨d.B, d.P ++ [(i, t)], less d.left⟩
theorem Ok.flushed {d : Dr} (h : Ok d) : Ok (flushed d) :=
  ⟨by show (flushM d.B d.P).length ≤ 256; rw [flush_length]; exact h.n, flush_sizes _ _ h.b (fun w hw => (h.p w hw).2), fun w hw => nomatch hw⟩
theorem Ok.crashed {d : Dr} (h : Ok d) (K : List Int) : Ok (crashed d K) :=
  ⟨by show (crashM d.B K 0 d.P).length ≤ 256; rw [crash_length]; exact h.n, crash_sizes _ _ _ _ h.b h.p, fun w hw => nomatch hw⟩
theorem Ok.putted {d : Dr} (h : Ok d) {i : Int} {t : ByteArray} (h0 : 0 ≤ i) (h1 : i < (d.B.length : Int)) (ht : t.size = 128) : Ok (putted d i t) :=
  ⟨h.n, h.b, fun w hw => by
    rcases List.mem_append.1 hw with h2 | h2
    · exact h.p w h2
    · rw [List.mem_singleton.1 h2]; exact ⟨⟨h0, h1⟩, ht⟩⟩
/-- why a drive may not be -/
def chkP (n : Nat) : List Wr → Int
  | [] => 0
  | w :: P => if 0 ≤ w.1 ∧ w.1 < (n : Int) then (if w.2.size = 128 then chkP n P else 3) else 2
def chkM (d : Dr) : Int := if 256 < d.B.length then 6 else if ∀ t ∈ d.B, t.size = 128 then chkP d.B.length d.P else 3
theorem chkP_zero {n : Nat} {P : List Wr} : chkP n P = 0 ↔ ∀ w ∈ P, (0 ≤ w.1 ∧ w.1 < (n : Int)) ∧ w.2.size = 128 := by
  induction P with
  | nil => exact ⟨fun _ _ hw => (nomatch hw), fun _ => rfl⟩
  | cons w P ih =>
    unfold chkP
    constructor
    · intro h
      by_cases h1 : 0 ≤ w.1 ∧ w.1 < (n : Int)
      · rw [if_pos h1] at h
        by_cases h2 : w.2.size = 128
        · rw [if_pos h2] at h
          intro x hx
          rcases List.mem_cons.1 hx with rfl | hx
          · exact ⟨h1, h2⟩
          · exact ih.1 h x hx
        · rw [if_neg h2] at h; exact absurd h (by decide)
      · rw [if_neg h1] at h; exact absurd h (by decide)
    · intro h
      obtain ⟨h1, h2⟩ := h w (List.mem_cons_self ..)
      rw [if_pos h1, if_pos h2]
      exact ih.2 fun x hx => h x (List.mem_cons_of_mem _ hx)
theorem chk_ok {d : Dr} : chkM d = 0 ↔ Ok d := by
  unfold chkM
  constructor
  · intro h
    by_cases h1 : 256 < d.B.length
    · rw [if_pos h1] at h; exact absurd h (by decide)
    · rw [if_neg h1] at h
      by_cases h2 : ∀ t ∈ d.B, t.size = 128
      · rw [if_pos h2] at h
        exact ⟨by omega, h2, chkP_zero.1 h⟩
      · rw [if_neg h2] at h; exact absurd h (by decide)
  · intro h
    have h1 := h.n
    rw [if_neg (by omega), if_pos h.b]
    exact chkP_zero.2 h.p
/-- the zero drive; a new one -/
def zero : Dr := ⟨[], [], 0⟩
def zB : ByteArray := ⟨Array.replicate 128 0⟩
def oB : ByteArray := ⟨Array.replicate 128 1⟩
def newM (n : Int) : Dr × Int := if 0 ≤ n ∧ n ≤ 256 then (⟨List.replicate n.toNat zB, [], -1⟩, 0) else (zero, 2)
/-- more than is gone through -/
def big (d : Dr) : Prop := 260 < d.B.length ∨ 60 < d.P.length ∨ (∃ t ∈ d.B, 1000 < t.size) ∨ ∃ w ∈ d.P, 1000 < w.2.size
end Dm
end Go.Proofs.Ytmolbliooaofbaa
