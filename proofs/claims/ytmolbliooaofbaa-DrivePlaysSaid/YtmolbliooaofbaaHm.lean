/-
  Plain mathematics of halves: each half of a block behind a crash is as the block, or one of its writes, had it.
-/
import Derived.Test.YtmolbliooaofbaaLw
namespace Go.Proofs.Ytmolbliooaofbaa
set_option linter.unusedVariables false
set_option maxRecDepth 100000
set_option linter.unusedSimpArgs false
open Go.RowKit
namespace Dw
open _root_.Go.Proofs.Ytmolbliooaofbaa.Nm
open Dm (Wr wnth)
theorem str_yes {a b : ByteArray} (h : a = b) : (a.toList == b.toList) = true := by rw [h]; simp
theorem str_no {a b : ByteArray} (h : a ≠ b) : (a.toList == b.toList) = false := by
  rw [beq_eq_false_iff_ne]
  intro e
  rw [Go.ByteArray.toList_eq, Go.ByteArray.toList_eq] at e
  exact h (toL_inj e)
def lo (t : ByteArray) : ByteArray := t.extract 0 64
def hi (t : ByteArray) : ByteArray := t.extract 64 128
theorem lo_become {p : Nat} {a d : ByteArray} (ha : a.size = 128) (hd : d.size = 128) : lo (Dm.become p a d) = lo a ∨ lo (Dm.become p a d) = lo d := by
  unfold Dm.become
  by_cases h1 : p = 1
  · rw [if_pos h1]; exact .inr rfl
  · rw [if_neg h1]
    by_cases h2 : p = 2
    · rw [if_pos h2]
      refine .inr (toL_inj ?_)
      unfold lo
      have l1 := toL_length d
      rw [toL_extract, toL_app', toL_extract, toL_extract, List.drop_zero, List.drop_zero, Nat.sub_zero,
        List.take_append_of_le_length (by rw [List.length_take]; omega), List.take_take]
      rfl
    · rw [if_neg h2]; exact .inl rfl
theorem hi_become {p : Nat} {a d : ByteArray} (ha : a.size = 128) (hd : d.size = 128) : hi (Dm.become p a d) = hi a ∨ hi (Dm.become p a d) = hi d := by
  unfold Dm.become
  by_cases h1 : p = 1
  · rw [if_pos h1]; exact .inr rfl
  · rw [if_neg h1]
    by_cases h2 : p = 2
    · rw [if_pos h2]
      refine .inl (toL_inj ?_)
      unfold hi
      have l1 := toL_length d
      rw [toL_extract, toL_app', toL_extract, toL_extract, toL_extract, ha, List.drop_zero, Nat.sub_zero,
        List.drop_append, List.drop_of_length_le (by rw [List.length_take]; omega), List.nil_append, List.length_take, show 64 - min 64 (toL d).length = 0 from by omega, List.drop_zero, List.take_take]
      rfl
    · rw [if_neg h2]; exact .inl rfl
/-- where a half of a block comes from -/
theorem from_any (h : ByteArray → ByteArray) (hh : ∀ (p : Nat) (a d : ByteArray), a.size = 128 → d.size = 128 → h (Dm.become p a d) = h a ∨ h (Dm.become p a d) = h d) (K : List Int) (k : Nat) (P : List Wr) :
    ∀ (B : List ByteArray) (n : Nat), (∀ x ∈ B, x.size = 128) → (∀ w ∈ P, (0 ≤ w.1 ∧ w.1 < (B.length : Int)) ∧ w.2.size = 128) → k < B.length →
      h (nth (Dm.crashM B K n P) k) = h (nth B k) ∨ ∃ w ∈ P, w.1 = (k : Int) ∧ h (nth (Dm.crashM B K n P) k) = h w.2 := by
  induction P with
  | nil => intro B n _ _ _; exact .inl rfl
  | cons w P ih =>
    intro B n hb hp hk
    obtain ⟨⟨h0, h1⟩, h2⟩ := hp w (List.mem_cons_self ..)
    have hbs := hb _ (Dm.nth_mem (B := B) (k := w.1.toNat) (by omega))
    have hb' : ∀ x ∈ Dm.setI B w.1 (Dm.become (Dm.pickM K n) (nth B w.1.toNat) w.2), x.size = 128 := Dm.ok_set hb (Dm.become_size hbs h2)
    have := ih (Dm.setI B w.1 (Dm.become (Dm.pickM K n) (nth B w.1.toNat) w.2)) (n + 1) hb' (fun x hx => by rw [Dm.setI_length]; exact hp x (List.mem_cons_of_mem _ hx)) (by rw [Dm.setI_length]; exact hk)
    rw [show nth (Dm.setI B w.1 (Dm.become (Dm.pickM K n) (nth B w.1.toNat) w.2)) k = if w.1 = (k : Int) then Dm.become (Dm.pickM K n) (nth B w.1.toNat) w.2 else nth B k from Dm.nth_setI h0 h1] at this
    show h (nth (Dm.crashM (Dm.setI B w.1 (Dm.become (Dm.pickM K n) (nth B w.1.toNat) w.2)) K (n + 1) P) k) = _ ∨ ∃ x ∈ w :: P, x.1 = (k : Int) ∧ h (nth (Dm.crashM (Dm.setI B w.1 (Dm.become (Dm.pickM K n) (nth B w.1.toNat) w.2)) K (n + 1) P) k) = h x.2
    rcases this with e | ⟨x, hx, e1, e2⟩
    · by_cases hi : w.1 = (k : Int)
      · rw [if_pos hi] at e
        have hkk : w.1.toNat = k := by omega
        rcases hh (Dm.pickM K n) (nth B w.1.toNat) w.2 hbs h2 with q | q
        · rw [q, hkk] at e; exact .inl (by rw [hkk]; exact e)
        · rw [q] at e; exact .inr ⟨w, List.mem_cons_self .., hi, e⟩
      · rw [if_neg hi] at e; exact .inl e
    · exact .inr ⟨x, List.mem_cons_of_mem _ hx, e1, e2⟩
/-- whether a half is as the block, or one of its writes, had it, as the law reckons -/
def fo (h : ByteArray → ByteArray) (s b : ByteArray) (P : List Wr) (k : Nat) : Bool := P.foldl (fun acc w => if w.1 = (k : Int) then acc || ((h s).toList == (h w.2).toList) else acc) ((h s).toList == (h b).toList)
theorem fo_step {h : ByteArray → ByteArray} {s b : ByteArray} {P : List Wr} {k q : Nat} (hq : q < P.length) : fo h s b (P.take (q + 1)) k = if (wnth P q).1 = (k : Int) then fo h s b (P.take q) k || ((h s).toList == (h (wnth P q).2).toList) else fo h s b (P.take q) k := by
  rw [Dm.take_wnth hq]
  unfold fo
  rw [List.foldl_append]; rfl
theorem fo_keeps (h : ByteArray → ByteArray) (s : ByteArray) (k : Nat) (P : List Wr) : P.foldl (fun acc w => if w.1 = (k : Int) then acc || ((h s).toList == (h w.2).toList) else acc) true = true := by
  induction P with
  | nil => rfl
  | cons w P ih =>
    rw [List.foldl_cons]
    by_cases e : w.1 = (k : Int)
    · rw [if_pos e, Bool.true_or]; exact ih
    · rw [if_neg e]; exact ih
theorem fo_mem (h : ByteArray → ByteArray) (s : ByteArray) (k : Nat) (P : List Wr) : ∀ (acc : Bool), (∃ w ∈ P, w.1 = (k : Int) ∧ h s = h w.2) → P.foldl (fun acc w => if w.1 = (k : Int) then acc || ((h s).toList == (h w.2).toList) else acc) acc = true := by
  induction P with
  | nil => rintro acc ⟨w, hw, _⟩; exact nomatch hw
  | cons w P ih =>
    rintro acc ⟨x, hx, e1, e2⟩
    rw [List.foldl_cons]
    rcases List.mem_cons.1 hx with rfl | hx
    · rw [if_pos e1, str_yes e2, Bool.or_true]
      exact fo_keeps h s k P
    · exact ih _ ⟨x, hx, e1, e2⟩
theorem fo_true {h : ByteArray → ByteArray} {s b : ByteArray} {P : List Wr} {k : Nat} (H : h s = h b ∨ ∃ w ∈ P, w.1 = (k : Int) ∧ h s = h w.2) : fo h s b P k = true := by
  unfold fo
  rcases H with e | e
  · rw [str_yes e]; exact fo_keeps h s k P
  · exact fo_mem h s k P _ e
theorem halves {d : Dm.Dr} (h : Dm.Ok d) (K : List Int) {k : Nat} (hk : k < d.B.length) :
    fo lo (nth (Dm.crashM d.B K 0 d.P) k) (nth d.B k) d.P k = true ∧ fo hi (nth (Dm.crashM d.B K 0 d.P) k) (nth d.B k) d.P k = true :=
  ⟨fo_true (from_any lo (fun _ _ _ => lo_become) K k d.P d.B 0 h.b h.p hk), fo_true (from_any hi (fun _ _ _ => hi_become) K k d.P d.B 0 h.b h.p hk)⟩
end Dw
end Go.Proofs.Ytmolbliooaofbaa
