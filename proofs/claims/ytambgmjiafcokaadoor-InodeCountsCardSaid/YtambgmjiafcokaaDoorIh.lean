/-
  THE WALK of the function that hands on the fields of an inode, one behind the other.
-/
import Derived.Test.YtambgmjiafcokaaDoorIg
namespace Go.Proofs.YtambgmjiafcokaaDoor
set_option linter.unusedVariables false
set_option maxRecDepth 100000
set_option linter.unusedSimpArgs false
open Go.RowKit Go.Shelf
attribute [local go_sem] Oper.semAt_some
namespace Dw
open _root_.Go.Proofs.YtambgmjiafcokaaDoor.Nm hiding Own
theorem abides_below {β : Type} {B : Nat} {J : β → World → Prop} (h : AbidesFrom B J) {s : β} {W W' : World} (hs : J s W) (hb : Below W.heap.size W W') : J s W' :=
  h s W W' none hs ⟨hb.os, hb.tape, hb.output, hb.size, fun k hk _ => hb.block k hk⟩ (fun r e => by cases e)
def encF (g : Nat) (q : Fin 12) : Array Value := #[.agg #[.pointer (some ⟨g, Ni.cl q, none⟩), .int .i64 (Ni.sz q : Nat)]]
/-- the box and the row are as they were -/
def Kf (Bn r : Nat) (W W' : World) : Prop := W.heap.size ≤ W'.heap.size ∧ W'.heap[Bn]? = W.heap[Bn]? ∧ W'.heap[r]? = W.heap[r]?
theorem cell_eq {W W' : World} {b : Nat} (h : W'.heap[b]? = W.heap[b]?) (i : Nat) : W'.cell? ⟨b, i, none⟩ = W.cell? ⟨b, i, none⟩ := by simp [World.cell?, h]
theorem Fl.kept {n₀ n₁ : Nat} {W W' : World} {Bn r c g : Nat} (h : Fl n₀ W Bn r c g) (k : Kf Bn r W W') (hn : n₀ ≤ n₁) : Fl n₁ W' Bn r c g :=
  ⟨(cell_eq k.2.1 0).trans h.b, Nat.lt_of_lt_of_le h.lt hn, Nat.lt_of_lt_of_le h.lr hn, fun q hq => ⟨(cell_eq k.2.2 _).trans (h.p q hq).1, (cell_eq k.2.2 _).trans (h.p q hq).2⟩⟩
theorem Fl.below {n₀ : Nat} {W W' : World} {Bn r c g : Nat} (h : Fl n₀ W Bn r c g) (hn : n₀ ≤ W.heap.size) (k : Below W.heap.size W W') : Fl n₀ W' Bn r c g := h.low (k.mono hn)
def fr (k : Nat) : List (Fin 12) := (List.finRange 12).take k
theorem fr_next {k : Nat} (h : k < 12) : fr k ++ [⟨k, h⟩] = fr (k + 1) := by
  unfold fr
  rw [List.take_succ_eq_append_getElem (by simpa using h)]
  simp
theorem fr_length {k : Nat} (h : k ≤ 12) : (fr k).length = k := by unfold fr; simp; omega
theorem fr_pre (k : Nat) : fr k <+: List.finRange 12 := List.take_prefix _ _
theorem fr_all : fr 12 = List.finRange 12 := rfl
set_option maxHeartbeats 1000000 in
theorem it_in (n : Nat) (hn : 1 ≤ n) (l Bn r c g n₀ : Nat) (J Jx : List (Fin 12) → World → Prop) (W : World) (hJ : AbidesFrom W.heap.size J) (hn0 : n₀ ≤ W.heap.size)
    (hY : ∀ pre x W1, J pre W1 → pre.length < 12 → YieldAt Fence.wide (n - 1) Tryd.prog l (encF g x) W1 fun e W' =>
      (e = .returned (.bool true) ∧ J (pre ++ [x]) W' ∧ Kf Bn r W1 W') ∨ (e = .returned (.bool false) ∧ Jx (pre ++ [x]) W'))
    (hR : Fl n₀ W Bn r c g) (h0 : J [] W) :
    CallsIn Fence.wide n Tryd.prog 39 #[.func (.yield l) #[] #[], .pointer (some ⟨Bn, 0, none⟩)] W fun e W' => (∃ v, e = .returned v) ∧
      ((∃ ys, ys = List.finRange 12 ∧ J ys W') ∨ (∃ pre, pre <+: List.finRange 12 ∧ Jx pre W')) := by
  have hb0 := hR.b
  refine callsIn_of_wp Tryd.func39 rfl trivial ?_ rfl
  simp only [Tryd.ntmps39, List.size_toArray, List.length_cons, List.length_nil, Nat.reduceAdd, Nat.reduceSub, Array.replicate_succ, Array.replicate_zero, List.push_toArray, List.append_toArray, List.nil_append, List.cons_append]
  gi_wp2
  gi_loopw [7] (fun i wr => ∃ k : Nat, k ≤ 12 ∧ i = .int .i64 (k : Int) ∧ J (fr k) wr ∧ Fl n₀ wr Bn r c g ∧ n₀ ≤ wr.heap.size) (fun i wr => 12 - (intOf i).toNat)
  case atStart => exact ⟨0, by omega, rfl, h0, hR, hn0⟩
  case round =>
    obtain ⟨k, hk, rfl, hJs, hRs, hns⟩ := hrel
    by_cases hlt : k < 12
    · obtain ⟨c1, c2⟩ := hRs.p k hlt
      have hX := grow wr (Obj.cells #[.pointer (some ⟨g, Ni.cl k, none⟩), .int .i64 (Ni.sz k : Nat)] 54)
      have hJ1 := abides_below hJ hJs hX
      have hR1 := hRs.below hns hX
      obtain ⟨fn, tmps, assign, body, hy, hR2⟩ := hY (fr k) ⟨k, hlt⟩ (wr.alloc (Obj.cells #[.pointer (some ⟨g, Ni.cl k, none⟩), .int .i64 (Ni.sz k : Nat)] 54)) hJ1 (by rw [fr_length (by omega)]; exact hlt)
      rw [fr_next hlt] at hR2
      dsimp only [encF] at hy
      have e2 : IntKind.i64.wrap ((k : Int) + 1) = (k : Int) + 1 := IntWalk.i64_in _ (by omega)
      have k0 : (k : Int) < 12 := by omega
      generalize Ni.cl k = p at *
      generalize Ni.sz k = z at *
      have hs1 : (wr.alloc (Obj.cells #[.pointer (some ⟨g, p, none⟩), .int .i64 (z : Nat)] 54)).heap.size = wr.heap.size + 1 := by simp
      clear hY hJ1 hX
      gi_wp2
      refine hR2.mono ?_
      rintro e W3 (⟨rfl, hJ3, hk3⟩ | ⟨rfl, hJx3⟩)
      · gi_wp2
        go_roundw
        case rel => exact ⟨k + 1, by omega, by go_num, hJ3, hR1.kept hk3 (Nat.le_refl _), by have := hk3.1; omega⟩
        case measure => first | (simp [intOf]; done) | (simp [intOf]; omega)
      · gi_wp2
        refine bodyPost_ret (results_none rfl _ _ _) rfl ?_
        exact ⟨⟨_, rfl⟩, .inr ⟨_, fr_pre _, hJx3⟩⟩
    · obtain rfl : k = 12 := by omega
      gi_wp2
      go_end0
      exact ⟨⟨_, rfl⟩, .inl ⟨_, rfl, hJs⟩⟩
/-- what hands on the fields keeps the word of an iterator -/
theorem it_stops (n : Nat) (hn : 1 ≤ n) (Bn r c g : Nat) (w : World) (hR : Fl w.heap.size w Bn r c g) :
    SeqStopsK Fence.wide n Tryd.prog 39 #[.pointer (some ⟨Bn, 0, none⟩)] (encF g) (Kf Bn r) (fun ys => ys = List.finRange 12) (fun pre => pre <+: List.finRange 12) 12 w := fun l J Jx W hW hJ _ hY h0 =>
  it_in n hn l Bn r c g w.heap.size J Jx W hJ hW.size hY (hR.low hW) h0
theorem Kf.trans {Bn r : Nat} {A B C : World} (h : Kf Bn r A B) (k : Kf Bn r B C) : Kf Bn r A C := ⟨Nat.le_trans h.1 k.1, k.2.1.trans h.2.1, k.2.2.trans h.2.2⟩
theorem Kf.putObj {Bn r l : Nat} (W : World) (o' : Obj) (h1 : Bn < l) (h2 : r < l) : Kf Bn r W (W.putObj l o') := ⟨by simp [World.putObj], World.putObj_heap_other (by omega), World.putObj_heap_other (by omega)⟩
theorem Kf.below {Bn r B : Nat} {W W' : World} (h : Below B W W') (h1 : Bn < B) (h2 : r < B) (hs : W.heap.size ≤ W'.heap.size) : Kf Bn r W W' := ⟨hs, h.block _ h1, h.block _ h2⟩
theorem Kf.setCell {Bn r : Nat} {W W' : World} (h : Kf Bn r W W') {a : Addr} (v : Value) (h1 : Bn ≠ a.block) (h2 : r ≠ a.block) : Kf Bn r W (W'.setCell a v) :=
  ⟨by simp; exact h.1, (Below.heap_setCell _ _ _ _ h1).trans h.2.1, (Below.heap_setCell _ _ _ _ h2).trans h.2.2⟩
theorem Kf.refl (Bn r : Nat) (W : World) : Kf Bn r W W := ⟨Nat.le_refl _, rfl, rfl⟩
end Dw
end Go.Proofs.YtambgmjiafcokaaDoor
