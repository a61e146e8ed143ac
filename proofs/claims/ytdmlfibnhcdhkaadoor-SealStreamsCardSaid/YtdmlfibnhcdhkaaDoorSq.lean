/-
  What is sealed is opened; the document's example.
-/
import Derived.Test.YtdmlfibnhcdhkaaDoorSo
namespace Go.Proofs.YtdmlfibnhcdhkaaDoor
open Go.RowKit
theorem tn_inj {a b : ByteArray} (h : tn a = tn b) : a = b := by rw [← bs_tn a, h, bs_tn]
theorem left_cut (a b : ByteArray) (n : Nat) (hn : n = a.size) : (a ++ b).extract 0 n = a := tn_inj (by
  rw [tn_extract, tn_append, List.drop_zero, hn, ← tn_length, List.take_left' rfl])
theorem right_cut (a b : ByteArray) (n m : Nat) (hn : n = a.size) (hm : m = (a ++ b).size) : (a ++ b).extract n m = b := tn_inj (by
  rw [tn_extract, hm, List.take_of_length_le (by rw [tn_length]; exact Nat.le_refl _), tn_append, hn, ← tn_length, List.drop_left' rfl])
theorem strm_twice (K N : List Nat) (d : ByteArray) : strm K N (strm K N d) = d := by
  unfold strm
  exact Ci.twice _ _ _ _
theorem tagD_by (K : List Nat) (h b : ByteArray) : Bl.By (tagD K h b) := keyed_by _ _
theorem tn_box {K N : List Nat} {h d : ByteArray} (bN : Bl.By N) : tn (boxD K N h d) = N ++ (tn (strm K N d) ++ tagD K h (bodyD K N d)) := by
  have e : tn (bodyD K N d) = N ++ tn (strm K N d) := by rw [bodyD, tn_append, tn_bs bN]
  rw [boxD, tn_append, e, tn_bs (tagD_by _ _ _), List.append_assoc]
theorem nonD_box {K N : List Nat} {h d : ByteArray} (bN : Bl.By N) (lN : N.length = 12) : nonD (boxD K N h d) = N := by
  rw [nonD, tn_box bN, List.append_assoc, List.take_left' lN]
theorem mid_box {K N : List Nat} {h d : ByteArray} (bN : Bl.By N) (lN : N.length = 12) : (boxD K N h d).extract 12 ((boxD K N h d).size - 32) = strm K N d := tn_inj (by
  rw [tn_extract, tn_box bN, boxD_size lN, List.take_append, List.take_of_length_le (by rw [lN]; omega), List.drop_left' lN, List.take_left' (by rw [tn_length, strm_size]; omega)])
theorem open_seal {K N : List Nat} {h d : ByteArray} (bN : Bl.By N) (lN : N.length = 12) : openD K h (boxD K N h d) = (d, 0) := by
  have z := boxD_size (K := K) (h := h) (d := d) lN
  have zB := bodyD_size (K := K) (d := d) lN
  rw [openD, if_neg (by omega)]
  have e1 : (boxD K N h d).extract 0 ((boxD K N h d).size - 32) = bodyD K N d := left_cut _ _ _ (by omega)
  have e2 : (boxD K N h d).extract ((boxD K N h d).size - 32) (boxD K N h d).size = bs (tagD K h (bodyD K N d)) := right_cut _ _ _ _ (by omega) rfl
  rw [e1, e2, if_pos rfl, nonD_box bN lN, mid_box bN lN, strm_twice]
/-- the key of the example -/
def k1 : List Nat := 1 :: List.replicate 31 0
def n0 : List Nat := List.replicate 12 0
theorem k1_by : Bl.By k1 := by unfold Bl.By; decide
theorem n0_by : Bl.By n0 := by unfold Bl.By; decide
set_option maxRecDepth 100000 in
set_option maxHeartbeats 1000000 in
theorem awake_any (w : World) (hT : Tab w) : Calls Tryd.prog 10 #[] w fun e w' => e = .returned (.bool true) ∧ Below w.heap.size w w' := by
  have h11 := seal_any k1 n0 ⟨#[104]⟩ ⟨#[]⟩ w k1_by n0_by rfl rfl hT (by decide) (by decide)
  have zb : (boxD k1 n0 ⟨#[104]⟩ ⟨#[]⟩).size = 44 := boxD_size rfl
  have h12 := fun wr (o : Below w.heap.size w wr) => open_any k1 ⟨#[104]⟩ (boxD k1 n0 ⟨#[104]⟩ ⟨#[]⟩) wr k1_by rfl (hT.below o) (by decide) (by omega)
  rw [open_seal n0_by rfl] at h12
  generalize boxD k1 n0 ⟨#[104]⟩ ⟨#[]⟩ = b at *
  go_enter Tryd.func10, Tryd.ntmps10
  go_wp2_with fail
  change Calls _ 11 #[.agg (vs .u8 k1), .agg (vs .u8 n0), .string ⟨#[104]⟩, .string ⟨#[]⟩] _ _
  refine h11.mono ?_
  rintro e w1 ⟨rfl, hx⟩
  go_wp2_with fail
  change Calls _ 12 #[.agg (vs .u8 k1), .string ⟨#[104]⟩, .string b] _ _
  refine (h12 _ hx).mono ?_
  rintro e w2 ⟨rfl, hy⟩
  go_wp2_with fail
  go_ret
  exact ⟨rfl, hx.trans (hy.mono hx.size)⟩
end Go.Proofs.YtdmlfibnhcdhkaaDoor
