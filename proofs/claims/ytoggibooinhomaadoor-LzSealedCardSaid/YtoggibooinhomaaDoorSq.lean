/-
  What is sealed is opened; the document's example.
-/
import Derived.Test.YtoggibooinhomaaDoorSo
namespace Go.Proofs.YtoggibooinhomaaDoor
set_option linter.unusedVariables false
set_option linter.unusedSimpArgs false
open Go.RowKit
theorem tn_inj {a b : ByteArray} (h : tn a = tn b) : a = b := by rw [← bs_tn a, h, bs_tn]
theorem left_cut (a b : ByteArray) (n : Nat) (hn : n = a.size) : (a ++ b).extract 0 n = a := tn_inj (by
  rw [tn_extract, tn_append, List.drop_zero, hn, ← tn_length, List.take_left' rfl])
theorem right_cut (a b : ByteArray) (n m : Nat) (hn : n = a.size) (hm : m = (a ++ b).size) : (a ++ b).extract n m = b := tn_inj (by
  rw [tn_extract, hm, List.take_of_length_le (by rw [tn_length]; exact Nat.le_refl _), tn_append, hn, ← tn_length, List.drop_left' rfl])
theorem strm_twice (K N : List Nat) (d : ByteArray) : strm K N (strm K N d) = d := by
  unfold strm
  exact Ci.twice _ _ _ _
theorem tagD_by (K : List Nat) (h b : ByteArray) : Bl.By (tagD K h b) := keyed_by _ _
theorem tn_box {K N : List Nat} {h d : ByteArray} (bN : Bl.By N) : tn (boxD K N h d) = N ++ (tn (strm K N d) ++ tagD K h (bodyD K N d)) := by
  have e : tn (bodyD K N d) = N ++ tn (strm K N d) := by rw [bodyD, tn_append, tn_bs bN]
  rw [boxD, tn_append, e, tn_bs (tagD_by _ _ _), List.append_assoc]
theorem nonD_box {K N : List Nat} {h d : ByteArray} (bN : Bl.By N) (lN : N.length = 12) : nonD (boxD K N h d) = N := by
  rw [nonD, tn_box bN, List.append_assoc, List.take_left' lN]
theorem mid_box {K N : List Nat} {h d : ByteArray} (bN : Bl.By N) (lN : N.length = 12) : (boxD K N h d).extract 12 ((boxD K N h d).size - 32) = strm K N d := tn_inj (by
  rw [tn_extract, tn_box bN, boxD_size lN, List.take_append, List.take_of_length_le (by rw [lN]; omega), List.drop_left' lN, List.take_left' (by rw [tn_length, strm_size]; omega)])
theorem open_seal {K N : List Nat} {h d : ByteArray} (bN : Bl.By N) (lN : N.length = 12) : openD K h (boxD K N h d) = (d, 0) := by
  have z := boxD_size (K := K) (h := h) (d := d) lN
  have zB := bodyD_size (K := K) (d := d) lN
  rw [openD, if_neg (by omega)]
  have e1 : (boxD K N h d).extract 0 ((boxD K N h d).size - 32) = bodyD K N d := left_cut _ _ _ (by omega)
  have e2 : (boxD K N h d).extract ((boxD K N h d).size - 32) (boxD K N h d).size = bs (tagD K h (bodyD K N d)) := right_cut _ _ _ _ (by omega) rfl
  rw [e1, e2, if_pos rfl, nonD_box bN lN, mid_box bN lN, strm_twice]
/-- the key of the example -/
def k1 : List Nat := 1 :: List.replicate 31 0
def n0 : List Nat := List.replicate 12 0
theorem k1_by : Bl.By k1 := by unfold Bl.By; decide
theorem n0_by : Bl.By n0 := by unfold Bl.By; decide
end Go.Proofs.YtoggibooinhomaaDoor
