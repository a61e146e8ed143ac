/-
  Plain mathematics of the pages that a program begins with: their bytes, one behind the other.
-/
import Derived.Test.YtkbelpkmlmfedaaEy
namespace Go.Proofs.Ytkbelpkmlmfedaa
set_option linter.unusedVariables false
set_option maxRecDepth 100000
set_option linter.unusedSimpArgs false
open Go.RowKit
namespace Xe
open _root_.Go.Proofs.Ytkbelpkmlmfedaa.Nm
/-- the bytes of the pages that may be written, or of those that may not -/
def cl (wt : Bool) (L : List Pg) : List UInt8 := ((L.filter fun p => p.w == wt).map fun p => toL p.d).flatten
theorem cl_append (wt : Bool) (a b : List Pg) : cl wt (a ++ b) = cl wt a ++ cl wt b := by simp [cl]
theorem cl_one (wt : Bool) (p : Pg) : cl wt [p] = if p.w = wt then toL p.d else [] := by
  by_cases h : p.w = wt
  · rw [if_pos h]; simp [cl, h]
  · rw [if_neg h]; simp [cl, h]
theorem cl_pp_same (s : Nat) (b : ByteArray) (wr : Bool) : ∀ k, cl wr (pp s b wr k) = (toL b).take (128 * k)
  | 0 => by simp [pp, cl]
  | k + 1 => by
    rw [pp_next, cl_append, cl_pp_same s b wr k, cl_one, if_pos rfl, toL_extract, show 128 * (k + 1) = 128 * k + 128 from by omega, List.take_add]
    congr 2
    omega
theorem cl_pp_not (s : Nat) (b : ByteArray) {wr wt : Bool} (h : wr ≠ wt) : ∀ k, cl wt (pp s b wr k) = []
  | 0 => by simp [pp, cl]
  | k + 1 => by rw [pp_next, cl_append, cl_pp_not s b h k, cl_one, if_neg h]; rfl
theorem pad_toL (b : ByteArray) : (toL (pad b)).take (128 * pn b.size) = toL (pad b) := List.take_of_length_le (by rw [toL_length, pad_size]; exact Nat.le_refl _)
theorem toL_app (a b : ByteArray) : toL (a ++ b) = toL a ++ toL b := by simp [toL]
theorem zs_toL (n : Nat) : toL (zs n) = List.replicate n 0 := by simp [toL, zs]
theorem txt_size (l : List Nat) : (⟨(Em.txt l).toArray⟩ : ByteArray).size = 4 * l.length := by
  show (Em.txt l).toArray.size = _
  rw [List.size_toArray, Em.txt_len]
/-- all text -/
theorem cl_text {x : Xv} {l : List Nat} (h : ¬ badN x.n x.d.size x.r x.e) (hl : l.length = x.n) : cl false (layL x l) = toL (pad ⟨(Em.txt l).toArray⟩) := by
  rw [layL, if_neg h, cl_append, cl_append, cl_pp_same, cl_pp_not _ _ (by decide), cl_one, if_neg (by decide), List.append_nil, List.append_nil]
  have := pad_toL ⟨(Em.txt l).toArray⟩
  rwa [txt_size, hl] at this
/-- all data -/
theorem cl_data {x : Xv} {l : List Nat} (h : ¬ badN x.n x.d.size x.r x.e) : cl true (layL x l) = toL (pad (x.d ++ zs x.r.toNat)) ++ List.replicate 128 0 := by
  rw [layL, if_neg h, cl_append, cl_append, cl_pp_same, cl_pp_not _ _ (by decide), cl_one, if_pos rfl, List.nil_append, zs_toL]
  have := pad_toL (x.d ++ zs x.r.toNat)
  rw [ByteArray.size_append, zs_size] at this
  rw [this]
theorem pp_at (s : Nat) (b : ByteArray) (wr : Bool) (k i : Nat) (h : i < (pp s b wr k).length) : (pp s b wr k)[i] = ⟨s + i, b.extract (128 * i) (128 * i + 128), wr⟩ := by simp [pp]
/-- each page has its number, and 128 bytes -/
theorem lay_at {x : Xv} {l : List Nat} (h : ¬ badN x.n x.d.size x.r x.e) (hl : l.length = x.n) (i : Nat) (hi : i < (layL x l).length) :
    (layL x l)[i].i = (if i < pn (4 * x.n) + pn (x.d.size + x.r.toNat) then i else 15) ∧ (layL x l)[i].d.size = 128 := by
  have hlen := layL_len (l := l) h
  have e : layL x l = pp 0 (pad ⟨(Em.txt l).toArray⟩) false (pn (4 * x.n)) ++ (pp (pn (4 * x.n)) (pad (x.d ++ zs x.r.toNat)) true (pn (x.d.size + x.r.toNat)) ++ [⟨15, zs 128, true⟩]) := by rw [layL, if_neg h, List.append_assoc]
  have s1 := pad_size ⟨(Em.txt l).toArray⟩
  rw [txt_size, hl] at s1
  have s2 := pad_size (x.d ++ zs x.r.toNat)
  rw [ByteArray.size_append, zs_size] at s2
  generalize layL x l = L at *
  subst e
  generalize pad ⟨(Em.txt l).toArray⟩ = b1 at *
  generalize pad (x.d ++ zs x.r.toNat) = b2 at *
  generalize pn (4 * x.n) = P at *
  generalize pn (x.d.size + x.r.toNat) = Q at *
  by_cases h1 : i < P
  · rw [List.getElem_append_left (by rw [pp_len]; exact h1), pp_at, if_pos (by omega)]
    exact ⟨by dsimp only; omega, by rw [ByteArray.size_extract]; omega⟩
  · rw [List.getElem_append_right (by rw [pp_len]; omega)]
    simp only [pp_len]
    by_cases h2 : i < P + Q
    · rw [List.getElem_append_left (by rw [pp_len]; omega), pp_at, if_pos h2]
      exact ⟨by simp; omega, by rw [ByteArray.size_extract]; omega⟩
    · rw [List.getElem_append_right (by rw [pp_len]; omega), if_neg h2]
      simp only [pp_len]
      have : i - P - Q = 0 := by omega
      simp only [this, List.getElem_cons_zero]
      exact ⟨trivial, zs_size 128⟩
theorem lay_rises {x : Xv} {l : List Nat} (h : ¬ badN x.n x.d.size x.r x.e) (hl : l.length = x.n) (i : Nat) (hi : i < (layL x l).length) (h0 : 0 < i) :
    (layL x l)[i - 1].i < (layL x l)[i].i := by
  have hlen := layL_len (l := l) h
  rw [(lay_at h hl i hi).1, (lay_at h hl (i - 1) (by omega)).1]
  have : pn (4 * x.n) + pn (x.d.size + x.r.toNat) ≤ 14 := by
    unfold badN at h
    have a := pg_pn (4 * x.n)
    have b := pg_pn (x.d.size + x.r.toNat)
    rw [show ((4 * x.n : Nat) : Int) = 4 * (x.n : Int) from by omega] at a
    rw [show ((x.d.size + x.r.toNat : Nat) : Int) = (x.d.size : Int) + x.r from by omega] at b
    omega
  by_cases h2 : i < pn (4 * x.n) + pn (x.d.size + x.r.toNat)
  · rw [if_pos h2, if_pos (by omega)]; omega
  · rw [if_neg h2, if_pos (by omega)]; omega
/-- as bytes -/
def cb (wt : Bool) (L : List Pg) : ByteArray := ⟨(cl wt L).toArray⟩
theorem cb_toL (wt : Bool) (L : List Pg) : toL (cb wt L) = cl wt L := by simp [toL, cb]
theorem cb_next (wt : Bool) (L : List Pg) (k : Nat) (h : k < L.length) : cb wt (L.take (k + 1)) = if L[k].w = wt then cb wt (L.take k) ++ L[k].d else cb wt (L.take k) := by
  apply toL_inj
  have e : L.take (k + 1) = L.take k ++ [L[k]] := by simp
  by_cases hw : L[k].w = wt
  · rw [if_pos hw, toL_app, cb_toL, cb_toL, e, cl_append, cl_one, if_pos hw]
  · rw [if_neg hw, cb_toL, cb_toL, e, cl_append, cl_one, if_neg hw, List.append_nil]
theorem cb_text {x : Xv} {l : List Nat} (h : ¬ badN x.n x.d.size x.r x.e) (hl : l.length = x.n) : cb false (layL x l) = pad ⟨(Em.txt l).toArray⟩ := by
  apply toL_inj
  rw [cb_toL, cl_text h hl]
theorem cb_data {x : Xv} {l : List Nat} (h : ¬ badN x.n x.d.size x.r x.e) : cb true (layL x l) = pad (x.d ++ zs x.r.toNat) ++ zs 128 := by
  apply toL_inj
  rw [cb_toL, cl_data h, toL_app, zs_toL]
/-- each word in its place -/
theorem txt_at : ∀ (l : List Nat) (i : Nat) (c : List UInt8), i < l.length → ((Em.txt l ++ c).drop (4 * i)).take 4 = Nu.putB (wn l i) 4
  | [], i, c, h => by simp at h
  | w :: l, 0, c, h => by
    rw [Em.txt_cons, List.append_assoc]
    show (Nu.putB w 4 ++ _).take 4 = _
    rw [List.take_append_of_le_length (by rw [Nu.putB_length]; omega), List.take_of_length_le (by rw [Nu.putB_length]; omega)]
    rfl
  | w :: l, i + 1, c, h => by
    rw [Em.txt_cons, List.append_assoc, show 4 * (i + 1) = 4 + 4 * i from by omega, ← List.drop_drop]
    rw [List.drop_append_of_le_length (show 4 ≤ (Nu.putB w 4).length by rw [Nu.putB_length]; omega), List.drop_of_length_le (show (Nu.putB w 4).length ≤ 4 by rw [Nu.putB_length]; omega), List.nil_append, txt_at l i c (by simpa using h)]
    rfl
theorem text_word {l : List Nat} {i : Nat} (h : i < l.length) : (pad ⟨(Em.txt l).toArray⟩).extract (4 * i) (4 * i + 4) = ⟨(Nu.putB (wn l i) 4).toArray⟩ := by
  apply toL_inj
  rw [toL_extract, pad, toL_app, show 4 * i + 4 - 4 * i = 4 from by omega, show toL (⟨(Em.txt l).toArray⟩ : ByteArray) = Em.txt l from by simp [toL], txt_at l i _ h]
  simp [toL]
/-- the data ahead, zeros behind -/
theorem text_rest (l : List Nat) : (pad ⟨(Em.txt l).toArray⟩).extract (4 * l.length) (128 * pn (4 * l.length)) = zs (128 * pn (4 * l.length) - 4 * l.length) := by
  apply toL_inj
  have s := txt_size l
  rw [toL_extract, pad, toL_app, s, zs_toL, List.drop_append_of_le_length (by rw [toL_length, s]; omega), List.drop_of_length_le (by rw [toL_length, s]; omega), List.nil_append]
  exact List.take_of_length_le (by simp)
theorem data_front (d : ByteArray) (r : Nat) : (pad (d ++ zs r) ++ zs 128).extract 0 d.size = d := by
  apply toL_inj
  rw [toL_extract, pad, toL_app, toL_app, toL_app, List.drop_zero, Nat.sub_zero, List.append_assoc, List.append_assoc, ← toL_length, List.take_left']
  rfl
theorem data_rest (d : ByteArray) (r : Nat) : (pad (d ++ zs r) ++ zs 128).extract d.size (128 * pn (d.size + r) + 128) = zs (128 * pn (d.size + r) + 128 - d.size) := by
  apply toL_inj
  have p : d.size + r ≤ 128 * pn (d.size + r) := by unfold pn; omega
  rw [toL_extract, pad, toL_app, toL_app, toL_app, ByteArray.size_append, zs_size, zs_toL, zs_toL, zs_toL, zs_toL, List.append_assoc, List.append_assoc, ← toL_length d, List.drop_left', List.replicate_append_replicate, List.replicate_append_replicate, toL_length]
  · rw [List.take_of_length_le (by simp; omega)]
    congr 1
    omega
  · rfl
theorem zs_at (n i : Nat) (h : i < (zs n).size) : (zs n)[i] = 0 := by
  show (List.replicate n (0 : UInt8)).toArray[i]'_ = 0
  simp
theorem zs_app (n m : Nat) : zs n ++ zs m = zs (n + m) := by
  apply toL_inj
  rw [toL_app, zs_toL, zs_toL, zs_toL, List.replicate_append_replicate]
end Xe
end Go.Proofs.Ytkbelpkmlmfedaa
