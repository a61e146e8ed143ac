/-
  Plain mathematics of a volume's inodes: one is put, what is got then; which are free.
-/
import Derived.Test.YtambgmjiafcokaaDoorGp
import Derived.Test.YtambgmjiafcokaaDoorIm
namespace Go.Proofs.YtambgmjiafcokaaDoor
set_option linter.unusedVariables false
set_option maxRecDepth 100000
set_option linter.unusedSimpArgs false
open Go.RowKit
namespace Dw
open _root_.Go.Proofs.YtambgmjiafcokaaDoor.Nm
def bk (n : Nat) : Nat := 3 + (n - 1) / 2
def pl (n : Nat) : Nat := 64 * ((n - 1) % 2)
theorem pl_two (n : Nat) : pl n = 0 ∨ pl n = 64 := by unfold pl; omega
theorem pl_le (n : Nat) : pl n + 24 ≤ 128 := by unfold pl; omega
theorem place_ne {n m : Nat} (hn : 1 ≤ n) (hm : 1 ≤ m) (h : n ≠ m) (hb : bk n = bk m) : pl n + 24 ≤ pl m ∨ pl m + 24 ≤ pl n := by
  unfold bk at hb; unfold pl; omega
/-- the numbers of an inode -/
def getX (l : List ByteArray) (n : Nat) : Nat → Int := Ni.dec ((toL (nth l (bk n))).drop (pl n))
def insT (T : ByteArray) (a : Nat) (X : Nat → Int) : ByteArray := ⟨(Ni.ins (toL T) a (Ni.enc X 12)).toArray⟩
def putL (l : List ByteArray) (n : Nat) (X : Nat → Int) : List ByteArray := l.set (bk n) (insT (nth l (bk n)) (pl n) X)
theorem toL_ins (T : ByteArray) (a : Nat) (X : Nat → Int) : toL (insT T a X) = Ni.ins (toL T) a (Ni.enc X 12) := toL_of _
theorem enc24 (X : Nat → Int) : (Ni.enc X 12).length = 24 := Ni.enc_length X 12 (by omega)
theorem bk_lt {b m n : Nat} {l : List ByteArray} (h : Vol l b m) (h1 : 1 ≤ n) (h2 : n ≤ m) : 3 ≤ bk n ∧ bk n < Gm.dat m ∧ Gm.dat m < b ∧ bk n < l.length := by
  have hd : Gm.dat m < b := h.fits.2.2.2.2
  have hl := h.len
  have : bk n < Gm.dat m := by unfold bk Gm.dat; omega
  refine ⟨by unfold bk; omega, this, hd, by omega⟩
theorem blk_size {l : List ByteArray} {b m i : Nat} (h : Vol l b m) (hi : i < b) : (toL (nth l i)).length = 128 := by rw [toL_length, h.blk i hi]
theorem getX_fit (l : List ByteArray) (n : Nat) : Ni.Fit (getX l n) := Ni.dec_fit _
theorem put_length (l : List ByteArray) (n : Nat) (X : Nat → Int) : (putL l n X).length = l.length := by simp [putL]
theorem put_nth {l : List ByteArray} {n : Nat} (X : Nat → Int) (h : bk n < l.length) : nth (putL l n X) (bk n) = insT (nth l (bk n)) (pl n) X := nth_set h
theorem put_nth_ne {l : List ByteArray} {n i : Nat} (X : Nat → Int) (h : bk n ≠ i) : nth (putL l n X) i = nth l i := nth_set_ne h
theorem insT_size {T : ByteArray} (h : T.size = 128) (n : Nat) (X : Nat → Int) : (insT T (pl n) X).size = 128 := by
  have := pl_le n
  have hT : (toL T).length = 128 := by rw [toL_length, h]
  rw [← toL_length, toL_ins, Ni.ins_length (by omega) (enc24 X), hT]
theorem put_vol {l : List ByteArray} {b m n : Nat} (h : Vol l b m) (h1 : 1 ≤ n) (h2 : n ≤ m) (X : Nat → Int) : Vol (putL l n X) b m := by
  obtain ⟨p1, p2, p3, p4⟩ := bk_lt h h1 h2
  refine ⟨by rw [put_length, h.len], fun i hi => ?_, h.fits, ?_, ?_⟩
  · by_cases e : bk n = i
    · subst e
      rw [put_nth X p4, insT_size (h.blk _ hi)]
    · rw [put_nth_ne X e]; exact h.blk i hi
  · rw [put_nth_ne X (by omega)]; exact h.hd
  · rw [put_nth_ne X (by omega)]; exact h.map
theorem get_put {l : List ByteArray} {b m n : Nat} (h : Vol l b m) (h1 : 1 ≤ n) (h2 : n ≤ m) {X : Nat → Int} (hf : Ni.Fit X) {q : Nat} (hq : q < 12) : getX (putL l n X) n q = X q := by
  obtain ⟨p1, p2, p3, p4⟩ := bk_lt h h1 h2
  have := pl_le n
  unfold getX
  rw [put_nth X p4, toL_ins, Ni.ins_drop (by rw [blk_size h (by omega)]; omega), Ni.dec_enc hf _ hq]
theorem get_put_ne {l : List ByteArray} {b m n k : Nat} (h : Vol l b m) (h1 : 1 ≤ n) (h2 : n ≤ m) (X : Nat → Int) (k1 : 1 ≤ k) (hne : n ≠ k) {q : Nat} (hq : q < 12) : getX (putL l n X) k q = getX l k q := by
  obtain ⟨p1, p2, p3, p4⟩ := bk_lt h h1 h2
  have := pl_le n
  unfold getX
  by_cases e : bk n = bk k
  · have hp := place_ne h1 k1 hne e
    rw [← e, put_nth X p4, toL_ins, ← Ni.dec_take _ hq, Ni.ins_other (by rw [blk_size h (by omega)]; omega) (enc24 X) hp, Ni.dec_take _ hq]
  · rw [put_nth_ne X e]
theorem put_congr (l : List ByteArray) (n : Nat) {X Y : Nat → Int} (h : ∀ q, q < 12 → X q = Y q) : putL l n X = putL l n Y := by
  unfold putL insT
  rw [Ni.enc_congr 12 h]
theorem insT_swap {T : ByteArray} {n k : Nat} (hT : T.size = 128) (h : pl n + 24 ≤ pl k ∨ pl k + 24 ≤ pl n) (X Y : Nat → Int) : insT (insT T (pl n) X) (pl k) Y = insT (insT T (pl k) Y) (pl n) X := by
  have h1 := pl_le n
  have h2 := pl_le k
  have hl : (toL T).length = 128 := by rw [toL_length, hT]
  apply toL_inj
  rw [toL_ins, toL_ins, toL_ins, toL_ins, Ni.ins_swap (by omega) (by omega) (enc24 X) (enc24 Y) h]
theorem put_put {l : List ByteArray} {b m n k : Nat} (h : Vol l b m) (h1 : 1 ≤ n) (h2 : n ≤ m) (k1 : 1 ≤ k) (k2 : k ≤ m) (hne : n ≠ k) (X Y : Nat → Int) : putL (putL l n X) k Y = putL (putL l k Y) n X := by
  obtain ⟨p1, p2, p3, p4⟩ := bk_lt h h1 h2
  obtain ⟨r1, r2, r3, r4⟩ := bk_lt h k1 k2
  by_cases e : bk n = bk k
  · have hp := place_ne h1 k1 hne e
    have a1 : putL (putL l n X) k Y = l.set (bk k) (insT (nth (putL l n X) (bk k)) (pl k) Y) := by unfold putL; rw [e, List.set_set]
    have a2 : putL (putL l k Y) n X = l.set (bk n) (insT (nth (putL l k Y) (bk n)) (pl n) X) := by unfold putL; rw [e, List.set_set]
    rw [a1, a2]
    conv => lhs; rw [← e, put_nth X p4]
    conv => rhs; rw [e, put_nth Y r4]
    rw [e, insT_swap (h.blk _ (by omega)) hp X Y]
  · have a1 : putL (putL l n X) k Y = (putL l n X).set (bk k) (insT (nth l (bk k)) (pl k) Y) := by
      conv => lhs; unfold putL
      rw [show nth (l.set (bk n) (insT (nth l (bk n)) (pl n) X)) (bk k) = nth l (bk k) from nth_set_ne e]
      rfl
    have a2 : putL (putL l k Y) n X = (putL l k Y).set (bk n) (insT (nth l (bk n)) (pl n) X) := by
      conv => lhs; unfold putL
      rw [show nth (l.set (bk k) (insT (nth l (bk k)) (pl k) Y)) (bk n) = nth l (bk n) from nth_set_ne (Ne.symm e)]
      rfl
    rw [a1, a2]
    unfold putL
    exact List.set_comm _ _ e
theorem put_get {l : List ByteArray} {b m n : Nat} (h : Vol l b m) (h1 : 1 ≤ n) (h2 : n ≤ m) {X : Nat → Int} (hX : ∀ q, q < 12 → X q = getX l n q) : putL l n X = l := by
  obtain ⟨p1, p2, p3, p4⟩ := bk_lt h h1 h2
  have hp := pl_le n
  have hl := blk_size (i := bk n) h (by omega)
  have e : insT (nth l (bk n)) (pl n) X = nth l (bk n) := by
    apply toL_inj
    rw [toL_ins, Ni.enc_congr 12 hX]
    unfold getX
    rw [Ni.enc_dec (by rw [List.length_drop]; omega), Ni.ins_same (by omega)]
  unfold putL
  rw [e]
  apply List.ext_getElem
  · simp
  · intro i i1 i2
    rw [List.getElem_set]
    split
    · rename_i hi
      subst hi
      exact nth_eq i2
    · rfl
/-- the numbers of those that aren't free, up to the k-th -/
def allL (l : List ByteArray) : Nat → List Int
  | 0 => []
  | k + 1 => allL l k ++ (if getX l (k + 1) 0 = 0 then [] else [((k + 1 : Nat) : Int)])
theorem allL_length (l : List ByteArray) : ∀ k, (allL l k).length ≤ k
  | 0 => Nat.le_refl _
  | k + 1 => by
    have := allL_length l k
    rw [allL, List.length_append]
    split <;> simp <;> omega
theorem allL_mem (l : List ByteArray) (x : Int) : ∀ k, x ∈ allL l k ↔ ∃ n : Nat, 1 ≤ n ∧ n ≤ k ∧ x = (n : Int) ∧ getX l n 0 ≠ 0
  | 0 => by
    simp [allL]
    intro n h1 h2
    omega
  | k + 1 => by
    rw [allL, List.mem_append, allL_mem l x k]
    constructor
    · rintro (⟨n, h1, h2, h3, h4⟩ | h)
      · exact ⟨n, h1, by omega, h3, h4⟩
      · split at h
        · simp at h
        · rename_i h0
          exact ⟨k + 1, by omega, Nat.le_refl _, by simpa using h, h0⟩
    · rintro ⟨n, h1, h2, h3, h4⟩
      by_cases e : n = k + 1
      · subst e
        refine .inr ?_
        rw [if_neg h4]
        simp [h3]
      · exact .inl ⟨n, h1, by omega, h3, h4⟩
theorem allL_full (l : List ByteArray) (i : Nat) : ∀ k, i ≤ k → (∀ n, 1 ≤ n → n ≤ k → (getX l n 0 ≠ 0 ↔ n ≤ i)) → (allL l k).length = i
  | 0, h, _ => by
    obtain rfl : i = 0 := by omega
    rfl
  | k + 1, h, hx => by
    have hk := hx (k + 1) (by omega) (Nat.le_refl _)
    rw [allL, List.length_append]
    by_cases e : i = k + 1
    · have h0 : getX l (k + 1) 0 ≠ 0 := hk.2 (by omega)
      rw [if_neg h0]
      have := allL_full l k k (Nat.le_refl _) (fun n h1 h2 => by
        have := hx n h1 (by omega)
        rw [this]; omega)
      rw [this]
      simp; omega
    · have h0 : getX l (k + 1) 0 = 0 := by
        apply Classical.byContradiction
        intro h0
        have := hk.1 h0
        omega
      rw [if_pos h0]
      have := allL_full l i k (by omega) (fun n h1 h2 => hx n h1 (by omega))
      rw [this]; rfl
/-- the least one that is free -/
def Fre (l : List ByteArray) (m n : Nat) : Prop := 1 ≤ n ∧ n ≤ m ∧ getX l n 0 = 0 ∧ ∀ j, 1 ≤ j → j < n → getX l j 0 ≠ 0
def Non (l : List ByteArray) (m : Nat) : Prop := ∀ j, 1 ≤ j → j ≤ m → getX l j 0 ≠ 0
theorem Fre.uniq {l : List ByteArray} {m n k : Nat} (h : Fre l m n) (h' : Fre l m k) : n = k := by
  apply Classical.byContradiction
  intro e
  by_cases hlt : n < k
  · exact h'.2.2.2 n h.1 hlt h.2.2.1
  · exact h.2.2.2 k h'.1 (by omega) h'.2.2.1
theorem Fre.not {l : List ByteArray} {m n : Nat} (h : Fre l m n) (h' : Non l m) : False := h' n h.1 h.2.1 h.2.2.1
theorem getB_zero : ∀ s : List UInt8, (∀ x ∈ s, x = 0) → Nu.getB s = 0
  | [], _ => rfl
  | c :: t, h => by
    have hc := h c (by simp)
    subst hc
    rw [Nu.getB, getB_zero t (fun x hx => h x (by simp [hx]))]
    rfl
theorem fmt_free {b m n : Nat} (hf : Gm.fits b m) (h1 : 1 ≤ n) (h2 : n ≤ m) (q : Nat) : getX (fmtL b m) n q = 0 := by
  obtain ⟨p1, p2, p3, p4⟩ := bk_lt (fmt_vol hf) h1 h2
  unfold getX Ni.dec Ni.fld fmtL
  rw [fmtK_other _ (by omega) (by omega) (by omega), getB_zero]
  · rfl
  · intro x hx
    have := List.mem_of_mem_drop (List.mem_of_mem_drop (List.mem_of_mem_take hx))
    unfold toL zs at this
    simp at this
    exact this
end Dw
end Go.Proofs.YtambgmjiafcokaaDoor
