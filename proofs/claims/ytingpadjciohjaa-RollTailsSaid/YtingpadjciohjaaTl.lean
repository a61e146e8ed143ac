/-
  Ends of rows: of one length and of one tail they are alike; what the map of ends holds.
-/
import Derived.Test.YtingpadjciohjaaAl
import Derived.Test.YtingpadjciohjaaJn
import Derived.Maps.Own
import Derived.Maps.OwnOps
import Derived.Maps.OwnSet
namespace Go.Proofs.Ytingpadjciohjaa
open Go.RowKit
open _root_.Go.Proofs.Ytingpadjciohjaa.Nm
set_option linter.unusedVariables false
set_option linter.unusedSimpArgs false
theorem glue_drop2 (D : ByteArray) (w lo hi : Int) (m : Nat) (hf : fitI w lo hi) (l : List ByteArray) (hl : l.map toL = LI D w lo hi m) (n : Nat) :
    (∃ X, X ++ toL (glue (l.drop n)) = toL D) ∧ LI (glue (l.drop n)) w lo hi m = (l.drop n).map toL := by
  have hg : toL (glue (l.drop n)) = ((LI D w lo hi m).drop n).flatten := by rw [glue_toL, List.map_drop, hl]
  unfold LI at hg hl
  rw [if_pos hf] at hg hl
  constructor
  · rw [hg]
    have hj := Ro.cut_join _ (fit_nat hf m).1 _ (toL D) rfl
    generalize Ro.cut ⟨w.toNat, lo.toNat, hi.toNat, m⟩ (toL D) = L at *
    exact ⟨(L.take n).flatten, by rw [← List.flatten_append, List.take_append_drop, hj]⟩
  · unfold LI
    rw [if_pos hf, hg, Ro.cut_drop _ (fit_nat hf m).1, List.map_drop, hl]
def sz (l : List ByteArray) (k : Nat) : Nat := (glue (l.drop k)).size
theorem sz_eq (l : List ByteArray) (k : Nat) : sz l k = ((l.drop k).map toL).flatten.length := by unfold sz; rw [← toL_length, glue_toL]
theorem sz_end (l : List ByteArray) : sz l l.length = 0 := by rw [sz_eq, List.drop_length]; rfl
theorem sz_step (l : List ByteArray) (k : Nat) (h : k < l.length) : sz l k = sz l (k + 1) + (nth l k).size := by
  rw [sz_eq, sz_eq, List.drop_eq_getElem_cons h, List.map_cons, List.flatten_cons, List.length_append, toL_length, nth_eq h]
  omega
theorem suffix {X Y P Q : List UInt8} (h : X ++ Y = P ++ Q) (hl : Y.length ≤ Q.length) : Y = Q.drop (Q.length - Y.length) := by
  have e := congrArg List.length h
  rw [List.length_append, List.length_append] at e
  have h1 : Y = (X ++ Y).drop X.length := by simp
  rw [h, List.drop_append, List.drop_eq_nil_of_le (by omega), List.nil_append] at h1
  rw [show Q.length - Y.length = X.length - P.length from by omega]
  exact h1
theorem toL_append (a b : ByteArray) : toL (a ++ b) = toL a ++ toL b := by simp [toL]
theorem tails_eq (F G T : ByteArray) (w lo hi : Int) (m : Nat) (hf : fitI w lo hi) (l l1 : List ByteArray) (hl : l.map toL = LI (F ++ T) w lo hi m) (hl1 : l1.map toL = LI (G ++ T) w lo hi m)
    (i k : Nat) (he : sz l i = sz l1 k) (ht : sz l1 k ≤ T.size) : l.drop i = l1.drop k := by
  obtain ⟨⟨X, hx⟩, e1⟩ := glue_drop2 _ w lo hi m hf l hl i
  obtain ⟨⟨Y, hy⟩, e2⟩ := glue_drop2 _ w lo hi m hf l1 hl1 k
  rw [toL_append] at hx hy
  have s1 := suffix hx (by rw [toL_length, toL_length]; unfold sz at *; omega)
  have s2 := suffix hy (by rw [toL_length, toL_length]; unfold sz at *; omega)
  have e : toL (glue (l.drop i)) = toL (glue (l1.drop k)) := by
    rw [s1, s2, toL_length (glue (l.drop i)), toL_length (glue (l1.drop k))]
    unfold sz at he
    rw [he]
  have e' := toL_inj e
  rw [e'] at e1
  exact map_toL_inj (e1.symm.trans e2)
theorem sz_le (D : ByteArray) (w lo hi : Int) (m : Nat) (hf : fitI w lo hi) (l : List ByteArray) (hl : l.map toL = LI D w lo hi m) (k : Nat) : sz l k ≤ D.size := by
  obtain ⟨⟨X, hx⟩, -⟩ := glue_drop2 _ w lo hi m hf l hl k
  have := congrArg List.length hx
  rw [List.length_append, toL_length, toL_length] at this
  unfold sz
  omega
theorem sizes_pos (D : ByteArray) (w lo hi : Int) (m : Nat) (hf : fitI w lo hi) (l : List ByteArray) (hl : l.map toL = LI D w lo hi m) (k : Nat) (hk : k < l.length) : 1 ≤ (nth l k).size := by
  have hs := Ro.cut_sizes _ (fit_nat hf m).1 _ (toL D) rfl k
  have e2 : Ro.cut ⟨w.toNat, lo.toNat, hi.toNat, m⟩ (toL D) = l.map toL := by rw [hl]; unfold LI; rw [if_pos hf]
  rw [e2] at hs
  have hs := (hs (by simpa using hk)).1
  rw [List.getElem_map, toL_length] at hs
  rw [nth_eq hk]
  exact hs
/-- what the map of ends holds -/
def Ends (l : List ByteArray) (D : DataW Unit) : Prop :=
  Maps.IsMap D ∧ ∀ x : Int, Maps.has D (.int .i64 x) = true → ∃ i : Nat, i ≤ l.length ∧ D.atKey (.int .i64 x) (.lit (.int .i64 0)) = .lit (.int .i64 (i : Int)) ∧ x = ((sz l i : Nat) : Int)
theorem ends_nil (l : List ByteArray) : Ends l (.map []) := ⟨⟨_, rfl⟩, fun x h => by simp [Maps.has] at h⟩
theorem ends_put (l : List ByteArray) (D : DataW Unit) (h : Ends l D) (i : Nat) (hi : i ≤ l.length) : Ends l (D.put (.int .i64 ((sz l i : Nat) : Int)) (.lit (.int .i64 (i : Int)))) := by
  refine ⟨?_, fun x hx => ?_⟩
  · obtain ⟨es, rfl⟩ := h.1
    exact ⟨_, rfl⟩
  · by_cases e : x = ((sz l i : Nat) : Int)
    · subst e
      exact ⟨i, hi, Maps.atKey_put_same h.1 (by trivial) _ _, rfl⟩
    · have hne : (Lit.int .i64 x) ≠ Lit.int .i64 ((sz l i : Nat) : Int) := by simpa using e
      rw [Maps.has_put_other hne] at hx
      rw [Maps.atKey_put_other hne]
      exact h.2 x hx
theorem law3 : Maps.Keyed Try.prog 3 := Maps.int_keyed Try.underlying3
theorem zero3 (w : World) : (zeroValue 3).run Try.prog w = .ok (.int .i64 0) w := by kernel_rfl
end Go.Proofs.Ytingpadjciohjaa
