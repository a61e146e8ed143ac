/-
  THE WALK of the function that hands on the parts: five, by rising numbers.
-/
import Derived.RangeFuncNested
import Derived.RangeFuncBound
import Derived.RangeFuncCalls
import Derived.RangeFuncLeaves
import Derived.RangeFuncBox
import Derived.Shelf.Abstract
import Derived.WalkKit
import Derived.OwnWalkIn
import Derived.TacticsInMore
import Derived.LoopNIn
import Derived.LoopIn
import Derived.Maps.AppendAt
import Derived.Test.YtgfnpemonpebpaaPt
namespace Go.Proofs.Ytgfnpemonpebpaa
open Go.RowKit Go.Shelf
set_option linter.unusedVariables false
set_option linter.unusedSimpArgs false
attribute [local go_sem] Oper.semAt_some
/-- the five parts of a text: a number, and its bytes -/
def five (L : List Nat) : List (Int × ByteArray) := (List.range 5).map fun i => (((i + 1 : Nat) : Int), bs (Pa.part L (i + 1)))
theorem five_length (L : List Nat) : (five L).length = 5 := by simp [five]
theorem five_take (L : List Nat) {X : Nat} (h1 : 1 ≤ X) (h5 : X ≤ 5) : (five L).take (X - 1) ++ [((X : Int), bs (Pa.part L X))] = (five L).take X := by
  match X, h1, h5 with
  | 1, _, _ => rfl
  | 2, _, _ => rfl
  | 3, _, _ => rfl
  | 4, _, _ => rfl
  | 5, _, _ => rfl
/-- a part's value -/
def enc5 (x : Int × ByteArray) : Value := .agg #[.int .i64 x.1, .string x.2]
theorem abides_below {β : Type} {B : Nat} {J : β → World → Prop} (h : AbidesFrom B J) {s : β} {W W' : World} (hs : J s W) (hb : Below W.heap.size W W') : J s W' :=
  h s W W' none hs ⟨hb.os, hb.tape, hb.output, hb.size, fun k hk _ => hb.block k hk⟩ (fun r e => by cases e)
theorem row_part {L : List Nat} {R S T : ByteArray} (h1 : toN R = Pa.cut L 0) (h2 : toN S = Pa.cut L 1) (h3 : toN T = Pa.cut L 2) (X : Nat) : Pa.row 1 2 3 (toN R) (toN S) (toN T) R.size X = Pa.part L X := by
  rw [← toN_length R, h1, h2, h3, Pa.cut_length]; rfl
set_option maxRecDepth 100000 in
set_option maxHeartbeats 4000000 in
theorem iter_in (n : Nat) (hn : 1 ≤ n) (l Bn : Nat) (L : List Nat) (hsz : L.length ≤ 1000000) (J Jx : List (Int × ByteArray) → World → Prop) (W : World) (hJ : AbidesFrom W.heap.size J)
    (hY : ∀ pre x W1, J pre W1 → pre.length < 5 → YieldAt Fence.wide (n - 1) Try.prog l #[enc5 x] W1 fun e W' =>
      (e = .returned (.bool true) ∧ J (pre ++ [x]) W' ∧ W'.heap[Bn]? = W1.heap[Bn]?) ∨ (e = .returned (.bool false) ∧ Jx (pre ++ [x]) W'))
    (hR : Rows3 W Bn L) (h0 : J [] W) :
    CallsIn Fence.wide n Try.prog 28 #[.func (.yield l) #[] #[], .pointer (some ⟨Bn, 0, none⟩)] W fun e W' => (∃ v, e = .returned v) ∧
      ((∃ ys, ys = five L ∧ J ys W') ∨ (∃ pre, pre <+: five L ∧ Jx pre W')) := by
  refine callsIn_of_wp Try.func28 rfl trivial ?_ rfl
  simp only [Try.ntmps28, List.size_toArray, List.length_cons, List.length_nil, Nat.reduceAdd, Nat.reduceSub, Array.replicate_succ, Array.replicate_zero, List.push_toArray, List.append_toArray, List.nil_append, List.cons_append]
  gi_wp2
  gi_loopw [3] (fun i wr => ∃ X : Nat, 1 ≤ X ∧ X ≤ 6 ∧ i = .int .i64 (X : Int) ∧ J ((five L).take (X - 1)) wr ∧ Rows3 wr Bn L) (fun i wr => 6 - (intOf i).toNat)
  case atStart => exact ⟨1, by omega, by omega, rfl, h0, hR⟩
  case round =>
    obtain ⟨X, h1, h6, rfl, hJs, hRs⟩ := hrel
    by_cases hlt : X ≤ 5
    · have i5 : (X : Int) ≤ 5 := by omega
      have e1 : IntKind.u8.wrap (X : Int) = (X : Int) := by rw [IntKind.wrap_u8]; omega
      have e2 : IntKind.i64.wrap ((X : Int) + 1) = (X : Int) + 1 := IntWalk.i64_in _ (by omega)
      have hRb := hRs.lt
      obtain ⟨R, S, T, o, c1, c2, c3⟩ := hRs
      have d0 := o.cell 0
      have d1 := o.cell 1
      have d2 := o.cell 2
      simp only [List.getElem?_toArray, List.getElem?_cons_zero, List.getElem?_cons_succ] at d0 d1 d2
      have l1 : R.size = Pa.cnt L.length := by rw [← toN_length, c1, Pa.cut_length]
      have l2 : S.size = Pa.cnt L.length := by rw [← toN_length, c2, Pa.cut_length]
      have l3 : T.size = Pa.cnt L.length := by rw [← toN_length, c3, Pa.cut_length]
      have hR1 : R.size ≤ 1000000 := by rw [l1]; unfold Pa.cnt; omega
      have hat := fun w => cat_any 1 2 3 X (by omega) (by omega) (by omega) (by omega) (by omega) (by omega) (by omega) R S T (by omega) (by omega) hR1 w
      simp only [row_part c1 c2 c3] at hat
      gi_wp2
      refine ⟨trivial, (callsIn_wide.2 (hat _)).mono ?_⟩
      rintro e W1 ⟨rfl, hb1⟩
      have hJ1 := abides_below hJ hJs hb1
      have o1 := o.below hb1
      obtain ⟨fn, tmps, assign, body, hy, hR2⟩ := hY ((five L).take (X - 1)) ((X : Int), bs (Pa.part L X)) W1 hJ1 (by rw [List.length_take, five_length]; omega)
      rw [five_take L h1 hlt] at hR2
      dsimp only [enc5] at hy
      clear hat hY hJ1 d0 d1 d2 hJs
      gi_wp2
      refine hR2.mono ?_
      rintro e W3 (⟨rfl, hJ3, hk3⟩ | ⟨rfl, hJx3⟩)
      · gi_wp2
        go_roundw
        case rel => exact ⟨X + 1, by omega, by omega, by go_num, hJ3, R, S, T, o1.kept hk3, c1, c2, c3⟩
        case measure => first | (simp [intOf]; done) | (simp [intOf]; omega)
      · gi_wp2
        refine bodyPost_ret (results_none rfl _ _ _) rfl ?_
        exact ⟨⟨_, rfl⟩, .inr ⟨_, List.take_prefix _ _, hJx3⟩⟩
    · obtain rfl : X = 6 := by omega
      gi_wp2
      go_end0
      exact ⟨⟨_, rfl⟩, .inl ⟨_, by rw [List.take_of_length_le (by rw [five_length]; omega)], hJs⟩⟩
/-- what hands on the parts keeps the word of an iterator -/
theorem iter_stops (n : Nat) (hn : 1 ≤ n) (Bn : Nat) (L : List Nat) (hsz : L.length ≤ 1000000) (w : World) (hR : Rows3 w Bn L) :
    SeqStopsK Fence.wide n Try.prog 28 #[.pointer (some ⟨Bn, 0, none⟩)] (fun x : Int × ByteArray => #[enc5 x]) (fun W W' => W'.heap[Bn]? = W.heap[Bn]?) (fun ys => ys = five L) (fun pre => pre <+: five L) 5 w := fun l J Jx W hW hJ _ hY h0 =>
  iter_in n hn l Bn L hsz J Jx W hJ hY (hR.below hW hR.lt) h0
end Go.Proofs.Ytgfnpemonpebpaa
