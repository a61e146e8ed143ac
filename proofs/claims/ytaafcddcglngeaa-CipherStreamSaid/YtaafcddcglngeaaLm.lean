/-
  Turned in parts; turned alike: plain mathematics.
-/
import Derived.Test.YtaafcddcglngeaaLk
namespace Go.Proofs.Ytaafcddcglngeaa
open Go.RowKit
theorem tn_extract (s : ByteArray) (a b : Nat) : tn (s.extract a b) = ((tn s).drop a).take (b - a) := by
  unfold tn
  simp [ByteArray.data_extract, List.extract_eq_take_drop, List.map_take, List.map_drop]
theorem bs_append (a b : List Nat) : bs (a ++ b) = bs a ++ bs b := by
  apply ByteArray.ext
  simp [bs]
theorem nth_part (D : List Nat) (a b i : Nat) (h : i < a) : Ch.nth (List.take a (List.drop b D)) i = Ch.nth D (b + i) := by
  unfold Ch.nth
  rw [List.getD_eq_getElem?_getD, List.getD_eq_getElem?_getD, List.getElem?_take_of_lt h, List.getElem?_drop]
theorem no_later (n b i : Nat) : no ((n + b) % 4294967296) i = no n (64 * b + i) := by unfold no; omega
theorem xs_parts (K N : List Nat) (n b : Nat) (s : ByteArray) (h : 64 * b ≤ s.size) :
    bs (xs K N n (tn s)) = bs (xs K N n (tn (s.extract 0 (64 * b)))) ++ bs (xs K N ((n + b) % 4294967296) (tn (s.extract (64 * b) s.size))) := by
  rw [← bs_append, tn_extract, tn_extract]
  congr 1
  have hl := tn_length s
  generalize tn s = D at *
  have l1 : (List.take (64 * b - 0) (List.drop 0 D)).length = 64 * b := by rw [List.length_take, List.length_drop]; omega
  have l2 : (List.take (s.size - 64 * b) (List.drop (64 * b) D)).length = s.size - 64 * b := by rw [List.length_take, List.length_drop]; omega
  apply List.ext_getElem
  · rw [List.length_append, xs_length, xs_length, xs_length, l1, l2]; omega
  · intro i h1 h2
    have hi : i < D.length := by rw [xs_length] at h1; exact h1
    rw [← Ch.nth_lt h1, xs_nth _ _ _ _ hi]
    by_cases hc : i < 64 * b
    · have h3 : i < (xs K N n (List.take (64 * b - 0) (List.drop 0 D))).length := by rw [xs_length, l1]; exact hc
      rw [List.getElem_append_left h3, ← Ch.nth_lt h3, xs_nth _ _ _ _ (by rw [l1]; exact hc)]
      unfold xb
      rw [nth_part _ _ _ _ (by omega), Nat.zero_add]
    · have h3 : (xs K N n (List.take (64 * b - 0) (List.drop 0 D))).length = 64 * b := by rw [xs_length, l1]
      rw [List.getElem_append_right (by omega)]
      have h4 : i - 64 * b < (List.take (s.size - 64 * b) (List.drop (64 * b) D)).length := by rw [l2]; omega
      simp only [h3]
      rw [← Ch.nth_lt (by rw [xs_length]; exact h4), xs_nth _ _ _ _ h4]
      unfold xb
      rw [no_later, show 64 * b + (i - 64 * b) = i from by omega, show (i - 64 * b) % 64 = i % 64 from by omega, nth_part _ _ _ _ (by omega), show 64 * b + (i - 64 * b) = i from by omega]
theorem xs_alike (K N : List Nat) (n : Nat) (s t : ByteArray) : ∀ (i : Nat) (hX : i < (bs (xs K N n (tn s))).size) (hY : i < (bs (xs K N n (tn t))).size) (hs : i < s.size) (ht : i < t.size),
    (bs (xs K N n (tn s)))[i].toNat ^^^ (bs (xs K N n (tn t)))[i].toNat = s[i].toNat ^^^ t[i].toNat := fun i hX hY hs ht => by
  rw [bs_get (xs_by K N n (tn_by s)) (by rw [xs_length, tn_length]; exact hs), bs_get (xs_by K N n (tn_by t)) (by rw [xs_length, tn_length]; exact ht),
    xs_nth _ _ _ _ (by rw [tn_length]; exact hs), xs_nth _ _ _ _ (by rw [tn_length]; exact ht), tn_get s hs, tn_get t ht]
  unfold xb
  generalize Ch.nth (Ch.block K N (no n i)) (i % 64) = z
  generalize Ch.nth (tn s) i = a
  generalize Ch.nth (tn t) i = b
  rw [Nat.xor_assoc, Nat.xor_comm b z, ← Nat.xor_assoc z z b, Nat.xor_self, Nat.zero_xor]
/-- noughts, turned, are the blocks -/
theorem xs_zero (K N : List Nat) (n c i : Nat) (hi : i < c) : (bs (xs K N n (List.replicate (64 * c) 0))).extract (64 * i) (64 * i + 64) = bs (Ch.block K N ((n + i) % 4294967296)) := by
  have hx : (bs (xs K N n (List.replicate (64 * c) 0))).extract (64 * i) (64 * i + 64) = bs (((xs K N n (List.replicate (64 * c) 0)).drop (64 * i)).take 64) := by
    apply ByteArray.ext
    simp [bs, ByteArray.data_extract, List.extract_eq_take_drop, List.map_take, List.map_drop]
  rw [hx]
  congr 1
  have lx : (xs K N n (List.replicate (64 * c) 0)).length = 64 * c := by rw [xs_length]; simp
  have lb := Ch.block_length K N ((n + i) % 4294967296)
  apply List.ext_getElem
  · rw [List.length_take, List.length_drop, lx, lb]; omega
  · intro j h1 h2
    have hj : j < 64 := by rw [lb] at h2; exact h2
    rw [List.getElem_take, List.getElem_drop, ← Ch.nth_lt (by rw [lx]; omega), xs_nth _ _ _ _ (by simp; omega), ← Ch.nth_lt h2]
    unfold xb no
    rw [show (64 * i + j) / 64 = i from by omega, show (64 * i + j) % 64 = j from by omega, Ch.nth_lt (by simp; omega), List.getElem_replicate, Nat.zero_xor]
end Go.Proofs.Ytaafcddcglngeaa
