/-
  THE WALK of the function that hands on the pending writes from behind (slices.Backward), and of Get.
-/
import Derived.RangeFuncNested
import Derived.RangeFuncBound
import Derived.RangeFuncCalls
import Derived.RangeFuncLeaves
import Derived.RangeFuncBox
import Derived.Shelf.Abstract
import Derived.OwnWalkIn
import Derived.TacticsInMore
import Derived.LoopNIn
import Derived.LoopIn
import Derived.Maps.AppendAt
import Derived.Test.YtmolbliooaofbaaDa
namespace Go.Proofs.Ytmolbliooaofbaa
set_option linter.unusedVariables false
set_option maxRecDepth 100000
set_option linter.unusedSimpArgs false
open Go.RowKit Go.Shelf
attribute [local go_sem] Oper.semAt_some
namespace Dw
open _root_.Go.Proofs.Ytmolbliooaofbaa.Nm hiding Own
open Dm (Wr wnth)
/-- the writes from behind, down to the k-th, with their numbers -/
def bk (P : List Wr) (k : Nat) : List (Int × Wr) := ((List.range P.length).drop k).reverse.map fun (j : Nat) => ((j : Int), wnth P j)
theorem bk_length (P : List Wr) (k : Nat) : (bk P k).length = P.length - k := by simp [bk]
theorem bk_end (P : List Wr) : bk P P.length = [] := by
  apply List.length_eq_zero_iff.1
  rw [bk_length]; omega
theorem bk_step {P : List Wr} {k : Nat} (h : k < P.length) : bk P (k + 1) ++ [((k : Int), wnth P k)] = bk P k := by
  unfold bk
  rw [List.drop_eq_getElem_cons (show k < (List.range P.length).length by simpa using h)]
  simp
theorem bk_pre (P : List Wr) (k : Nat) : bk P k <+: bk P 0 := by
  refine ⟨((List.range P.length).take k).reverse.map fun (j : Nat) => ((j : Int), wnth P j), ?_⟩
  unfold bk
  rw [← List.map_append, ← List.reverse_append, List.take_append_drop, List.drop_zero]
theorem bk_get {P : List Wr} {q : Nat} (h : q < P.length) : (bk P 0)[q]? = some (((P.length - 1 - q : Nat) : Int), wnth P (P.length - 1 - q)) := by
  unfold bk
  rw [List.drop_zero, List.getElem?_map, List.getElem?_reverse (by simpa using h), List.length_range, List.getElem?_range (by omega)]
  rfl
/-- what a way out in the midst tells -/
theorem bk_stop {P : List Wr} {pre : List (Int × Wr)} {x : Int × Wr} {i : Int} (h : pre ++ [x] <+: bk P 0) (hp : ∀ y ∈ pre, y.2.1 ≠ i) (hx : x.2.1 = i) :
    ∃ k, k < P.length ∧ x.2 = wnth P k ∧ (wnth P k).1 = i ∧ ∀ j, k < j → j < P.length → (wnth P j).1 ≠ i := by
  obtain ⟨t, ht⟩ := h
  have hl : pre.length < P.length := by
    have := congrArg List.length ht
    rw [bk_length] at this
    simp at this
    omega
  have hat : ∀ q : Nat, (pre ++ [x] ++ t)[q]? = (bk P 0)[q]? := fun q => by rw [ht]
  have e0 := hat pre.length
  rw [bk_get hl, List.append_assoc, List.getElem?_append_right (Nat.le_refl _), Nat.sub_self] at e0
  simp at e0
  refine ⟨P.length - 1 - pre.length, by omega, by rw [e0], by rw [e0] at hx; exact hx, fun j h1 h2 => ?_⟩
  have hq : P.length - 1 - j < pre.length := by omega
  have e1 := hat (P.length - 1 - j)
  rw [bk_get (by omega), List.append_assoc, List.getElem?_append_left hq, List.getElem?_eq_getElem hq] at e1
  have e2 := Option.some.inj e1
  have := hp _ (List.getElem_mem hq)
  rw [e2, show P.length - 1 - (P.length - 1 - j) = j from by omega] at this
  exact this
theorem bk_done {P : List Wr} {i : Int} (h : ∀ y ∈ bk P 0, y.2.1 ≠ i) : ∀ j, j < P.length → (wnth P j).1 ≠ i := fun j hj => by
  refine h ((j : Int), wnth P j) ?_
  have := bk_get (P := P) (q := P.length - 1 - j) (by omega)
  rw [show P.length - 1 - (P.length - 1 - j) = j from by omega] at this
  exact List.mem_of_getElem? this
def encW (x : Int × Wr) : Array Value := #[.int .i64 x.1, .agg #[.int .i64 x.2.1, .string x.2.2]]
/-- what the function reads: its box, and the row -/
structure Rd (n₀ : Nat) (W : World) (Bn : Nat) (A : Option Addr) (m c : Nat) (P : List Wr) : Prop where
  b : W.cell? ⟨Bn, 0, none⟩ = some (.slice A m c)
  lt : Bn < n₀
  p : Pz W A m c P
  q : 0 < m → ∀ b off, A = some ⟨b, off, none⟩ → b < n₀
theorem Pl.low {n₀ : Nat} {W W' : World} {b o : Nat} {l : List Wr} (hp : Pl W b o l) (h : Below n₀ W W') (hb : b < n₀) : Pl W' b o l := fun i hi => by
  obtain ⟨h1, h2⟩ := hp i hi
  exact ⟨(h.cell (p := ⟨b, _, none⟩) hb).trans h1, (h.cell (p := ⟨b, _, none⟩) hb).trans h2⟩
theorem Rd.low {n₀ : Nat} {W W' : World} {Bn : Nat} {A : Option Addr} {m c : Nat} {P : List Wr} (h : Rd n₀ W Bn A m c P) (k : Below n₀ W W') : Rd n₀ W' Bn A m c P :=
  ⟨(k.cell (p := ⟨Bn, 0, none⟩) h.lt).trans h.b, h.lt, ⟨h.p.len, (fun h0 => by
    obtain ⟨b, off, e, hc⟩ := h.p.c h0
    exact ⟨b, off, e, hc.low k (h.q h0 b off e)⟩), h.p.z, h.p.m⟩, h.q⟩
set_option maxHeartbeats 1000000 in
theorem back_in (n : Nat) (hn : 1 ≤ n) (l Bn n₀ : Nat) (A : Option Addr) (m c : Nat) (P : List Wr) (J Jx : List (Int × Wr) → World → Prop) (W : World)
    (hY : ∀ pre x W1, J pre W1 → pre.length < P.length → YieldAt Fence.wide (n - 1) Try.prog l (encW x) W1 fun e W' =>
      (e = .returned (.bool true) ∧ J (pre ++ [x]) W' ∧ Below n₀ W1 W') ∨ (e = .returned (.bool false) ∧ Jx (pre ++ [x]) W'))
    (hR : Rd n₀ W Bn A m c P) (h0 : J [] W) :
    CallsIn Fence.wide n Try.prog 44 #[.func (.yield l) #[] #[], .pointer (some ⟨Bn, 0, none⟩)] W fun e W' => (∃ v, e = .returned v) ∧
      ((∃ ys, ys = bk P 0 ∧ J ys W') ∨ (∃ pre, pre <+: bk P 0 ∧ Jx pre W')) := by
  have hpl : P.length = m := hR.p.len
  have hpm := hR.p.m
  have hb0 := hR.b
  refine callsIn_of_wp Try.func44 rfl trivial ?_ rfl
  simp only [Try.ntmps44, List.size_toArray, List.length_cons, List.length_nil, Nat.reduceAdd, Nat.reduceSub, Array.replicate_succ, Array.replicate_zero, List.push_toArray, List.append_toArray, List.nil_append, List.cons_append]
  have e0 : IntKind.i64.wrap ((m : Int) - 1) = (m : Int) - 1 := IntWalk.i64_in _ (by omega)
  gi_wp2
  gi_loopw [3] (fun i wr => ∃ k : Nat, k ≤ m ∧ i = .int .i64 ((k : Int) - 1) ∧ J (bk P k) wr ∧ Rd n₀ wr Bn A m c P) (fun i wr => (intOf i + 1).toNat)
  case atStart => exact ⟨m, Nat.le_refl _, rfl, by rw [← hpl, bk_end]; exact h0, hR⟩
  case round =>
    obtain ⟨k, hk, rfl, hJs, hRs⟩ := hrel
    cases k with
    | zero =>
      gi_wp2
      go_end0
      exact ⟨⟨_, rfl⟩, .inl ⟨_, rfl, hJs⟩⟩
    | succ k =>
      have hb := hRs.b
      obtain ⟨b, off, rfl, hc⟩ := hRs.p.c (by omega)
      obtain ⟨c1, c2⟩ := hc k (by omega)
      obtain ⟨fn, tmps, assign, body, hy, hR2⟩ := hY (bk P (k + 1)) ((k : Int), wnth P k) wr hJs (by rw [bk_length]; omega)
      rw [bk_step (by omega)] at hR2
      dsimp only [encW] at hy
      have e1 : ((k + 1 : Nat) : Int) - 1 = (k : Int) := by omega
      have e2 : IntKind.i64.wrap ((k : Int) - 1) = (k : Int) - 1 := IntWalk.i64_in _ (by omega)
      rw [e1]
      have k0 : (k : Int) < (m : Int) := by omega
      clear hc hY
      gi_wp2
      refine hR2.mono ?_
      rintro e W3 (⟨rfl, hJ3, hk3⟩ | ⟨rfl, hJx3⟩)
      · gi_wp2
        go_roundw
        case rel => exact ⟨k, by omega, by go_num, hJ3, hRs.low hk3⟩
        case measure => first | (simp [intOf]; done) | (simp [intOf]; omega)
      · gi_wp2
        refine bodyPost_ret (results_none rfl _ _ _) rfl ?_
        exact ⟨⟨_, rfl⟩, .inr ⟨_, bk_pre P k, hJx3⟩⟩
theorem back_stops (n : Nat) (hn : 1 ≤ n) (Bn n₀ : Nat) (A : Option Addr) (m c : Nat) (P : List Wr) (w : World) (hR : Rd n₀ w Bn A m c P) (h0 : n₀ ≤ w.heap.size) :
    SeqStopsK Fence.wide n Try.prog 44 #[.pointer (some ⟨Bn, 0, none⟩)] encW (fun W W' => Below n₀ W W') (fun ys => ys = bk P 0) (fun pre => pre <+: bk P 0) P.length w := fun l J Jx W hW hJ _ hY h0' =>
  back_in n hn l Bn n₀ A m c P J Jx W hY (hR.low (hW.mono h0)) h0'
theorem backward_any (A : Option Addr) (m c : Nat) (w : World) :
    Calls Try.prog 33 #[.slice A m c] w fun e w' => e = .returned (.func (.func 44) #[] #[.pointer (some ⟨w.heap.size, 0, none⟩)]) ∧ w' = w.alloc (.cells #[.slice A m c] 23) := by
  go_enter Try.func33, Try.ntmps33
  go_wp2_with fail
  go_ret
  exact ⟨rfl, rfl⟩
/-- Get's four boxes -/
structure G4 (w : World) (cs : Array Value) (i : Int) (s : ByteArray) (e : Int) (W : World) : Prop where
  a : Nm.Own W w.heap.size 25 cs
  b : Nm.Own W (w.heap.size + 1) 3 #[.int .i64 i]
  c : Nm.Own W (w.heap.size + 1 + 1) 9 #[.string s]
  d : Nm.Own W (w.heap.size + 1 + 1 + 1) 28 #[.int .i64 e]
  l : Below w.heap.size w W
theorem G4.new (w : World) (cs : Array Value) (i : Int) : G4 w cs i ⟨#[]⟩ 0 ((((w.alloc (Obj.cells cs 25)).alloc (Obj.cells #[.int .i64 i] 3)).alloc (Obj.cells #[.string ⟨#[]⟩] 9)).alloc (Obj.cells #[.int .i64 0] 28)) := by
  refine ⟨(((Nm.Own.new w 25 cs).alloc _).alloc _).alloc _, ?_, ?_, ?_, (((grow w _).alloc (by simp) _).alloc (by simp; omega) _).alloc (by simp; omega) _⟩
  · have := (((Nm.Own.new (w.alloc (Obj.cells cs 25)) 3 #[.int .i64 i]).alloc (Obj.cells #[.string ⟨#[]⟩] 9)).alloc (Obj.cells #[.int .i64 0] 28))
    rwa [World.size_alloc] at this
  · have := ((Nm.Own.new ((w.alloc (Obj.cells cs 25)).alloc (Obj.cells #[.int .i64 i] 3)) 9 #[.string ⟨#[]⟩]).alloc (Obj.cells #[.int .i64 0] 28))
    rwa [World.size_alloc, World.size_alloc] at this
  · have := Nm.Own.new (((w.alloc (Obj.cells cs 25)).alloc (Obj.cells #[.int .i64 i] 3)).alloc (Obj.cells #[.string ⟨#[]⟩] 9)) 28 #[.int .i64 0]
    rwa [World.size_alloc, World.size_alloc, World.size_alloc] at this
theorem G4.lt {w W : World} {cs : Array Value} {i e : Int} {s : ByteArray} (h : G4 w cs i s e W) : w.heap.size + 4 ≤ W.heap.size := h.d.lt
theorem G4.low {w W W' : World} {cs : Array Value} {i e : Int} {s : ByteArray} {n₀ : Nat} (h : G4 w cs i s e W) (k : Below n₀ W W') (hn : w.heap.size + 4 ≤ n₀) : G4 w cs i s e W' :=
  ⟨(k.block _ (by omega)).trans h.a, (k.block _ (by omega)).trans h.b, (k.block _ (by omega)).trans h.c, (k.block _ (by omega)).trans h.d, h.l.trans (k.mono (by omega))⟩
theorem G4.cells {w W : World} {cs : Array Value} {i e : Int} {s : ByteArray} (h : G4 w cs i s e W) :
    W.cell? ⟨w.heap.size, 0, none⟩ = cs[0]? ∧ W.cell? ⟨w.heap.size, 1, none⟩ = cs[1]? ∧ W.cell? ⟨w.heap.size + 1, 0, none⟩ = some (.int .i64 i) ∧
    W.cell? ⟨w.heap.size + 1 + 1, 0, none⟩ = some (.string s) ∧ W.frozen? ⟨w.heap.size + 1 + 1, 0, none⟩ = false ∧ W.cell? ⟨w.heap.size + 1 + 1 + 1, 0, none⟩ = some (.int .i64 e) ∧ W.frozen? ⟨w.heap.size + 1 + 1 + 1, 0, none⟩ = false :=
  ⟨h.a.cell 0, h.a.cell 1, h.b.cell 0, h.c.cell 0, h.c.frozen 0, h.d.cell 0, h.d.frozen 0⟩
/-- the answer is laid -/
theorem G4.set {w W : World} {cs : Array Value} {i e : Int} {s : ByteArray} (h : G4 w cs i s e W) (t : ByteArray) (f : Int) : G4 w cs i t f ((W.setCell ⟨w.heap.size + 1 + 1, 0, none⟩ (.string t)).setCell ⟨w.heap.size + 1 + 1 + 1, 0, none⟩ (.int .i64 f)) := by
  refine ⟨(h.a.other (by simp <;> omega) _).other (by simp <;> omega) _, (h.b.other (by simp <;> omega) _).other (by simp <;> omega) _, (Nm.Own.set h.c 0 (.string t)).other (by simp <;> omega) _, Nm.Own.set (h.d.other (by simp <;> omega) _) 0 _, ?_⟩
  exact (h.l.setCell (p := ⟨w.heap.size + 1 + 1, 0, none⟩) (by simp <;> omega) _).setCell (p := ⟨w.heap.size + 1 + 1 + 1, 0, none⟩) (by simp <;> omega) _
theorem G4.grown {w W W' : World} {cs : Array Value} {i e : Int} {s : ByteArray} {row : Option Nat} {B : Nat} (h : G4 w cs i s e W) (hg : W.grownBy W' row) (hr : ∀ r, row = some r → B ≤ r) (hB : w.heap.size + 4 ≤ B) : G4 w cs i s e W' := by
  have hl := h.lt
  have hk : ∀ k, k < w.heap.size + 4 → W'.heap[k]? = W.heap[k]? := fun k hk => hg.block k (by omega) (fun e => by have := hr k e.symm; omega)
  exact ⟨(hk _ (by omega)).trans h.a, (hk _ (by omega)).trans h.b, (hk _ (by omega)).trans h.c, (hk _ (by omega)).trans h.d, h.l.grown hg (by omega) (fun k e => by have := hr k e; omega)⟩
theorem G4.putObj {w W : World} {cs : Array Value} {i e : Int} {s : ByteArray} (h : G4 w cs i s e W) {D : Nat} (hD : w.heap.size + 4 ≤ D) (o : Obj) : G4 w cs i s e (W.putObj D o) :=
  h.grown (grownBy_putObj' W D o) (fun r e => by cases e; exact Nat.le_refl _) hD
set_option maxHeartbeats 1000000 in
theorem get_no (k : Nat) (hk : 4 ≤ k) (A : Option Addr) (n c : Nat) (A' : Option Addr) (m c' : Nat) (L : Int) (i : Int) (w : World) (hi : ¬ (0 ≤ i ∧ i < (n : Int))) :
    CallsIn Fence.wide k Try.prog 22 #[.agg (dv A n c A' m c' L), .int .i64 i] w fun e w' => e = .returned (.tuple #[.string ⟨#[]⟩, .int .i64 2]) ∧ Below w.heap.size w w' := by
  have h1 : 1 ≤ k := by omega
  have hhas := fun w => has_any A n c A' m c' L i w
  have g0 := G4.new w (dv A n c A' m c' L) i
  refine callsIn_of_wp_marks Try.func22 rfl trivial ?_ rfl
  simp only [Try.ntmps22, List.size_toArray, List.length_cons, List.length_nil, Nat.reduceAdd, Nat.reduceSub, Array.replicate_succ, Array.replicate_zero, List.push_toArray, List.append_toArray, List.nil_append, List.cons_append]
  gi_wp2
  refine ⟨trivial, (callsIn_wide.2 (hhas _)).mono ?_⟩
  rintro e W1 ⟨rfl, hx1⟩
  have g1 := g0.low hx1 g0.lt
  clear g0 hx1 hhas
  rw [decide_eq_false hi]
  obtain ⟨d0, d1, d2, d3, f3, d4, f4⟩ := g1.cells
  have g2 := g1.set ⟨#[]⟩ 2
  obtain ⟨-, -, -, q3, -, q4, -⟩ := g2.cells
  have Q := Lib.hid (And.intro q3 q4)
  clear q3 q4
  gi_wp2
  obtain ⟨q3, q4⟩ := Q.out
  exact ⟨.tuple #[.string ⟨#[]⟩, .int .i64 2], by simp [results, Try.results22, go_sem, q3, q4], rfl, g2.l⟩
set_option maxHeartbeats 1000000 in
theorem get_yes (k : Nat) (hk : 4 ≤ k) (A : Option Addr) (n c : Nat) (A' : Option Addr) (m c' : Nat) (d : Dm.Dr) (i : Nat) (w : World) (h : Dz w A n c A' m c' d) (hi : i < n) :
    CallsIn Fence.wide k Try.prog 22 #[.agg (dv A n c A' m c' d.left), .int .i64 (i : Int)] w fun e w' => e = .returned (.tuple #[.string (Dm.getM d.B d.P i), .int .i64 0]) ∧ Below w.heap.size w w' := by
  have h1 : 1 ≤ k := by omega
  have hn : d.B.length = n := h.b.t.1
  have hhas := fun w => has_any A n c A' m c' d.left (i : Int) w
  have hbk := fun w => backward_any A' m c' w
  have g0 := G4.new w (dv A n c A' m c' d.left) i
  rw [decide_eq_true (show 0 ≤ (i : Int) ∧ (i : Int) < (n : Int) by omega)] at hhas
  generalize d.left = L at *
  refine callsIn_of_wp_marks Try.func22 rfl trivial ?_ rfl
  simp only [Try.ntmps22, List.size_toArray, List.length_cons, List.length_nil, Nat.reduceAdd, Nat.reduceSub, Array.replicate_succ, Array.replicate_zero, List.push_toArray, List.append_toArray, List.nil_append, List.cons_append]
  gi_wp2
  refine ⟨trivial, (callsIn_wide.2 (hhas _)).mono ?_⟩
  rintro e W1 ⟨rfl, hx1⟩
  have g1 := g0.low hx1 g0.lt
  clear g0 hx1 hhas
  obtain ⟨d0, d1, d2, d3, f3, d4, f4⟩ := g1.cells
  simp only [List.getElem?_toArray, List.getElem?_cons_zero, List.getElem?_cons_succ] at d0 d1
  gi_wp2
  refine ⟨trivial, (callsIn_wide.2 (hbk _)).mono ?_⟩
  rintro e W2 ⟨rfl, rfl⟩
  clear hbk
  gi_wp2
  have g2 := g1.low (grow W1 (Obj.cells #[.slice A' m c'] 23)) g1.lt
  have hR : Rd (W1.heap.size + 1) (W1.alloc (Obj.cells #[.slice A' m c'] 23)) W1.heap.size A' m c' d.P := by
    refine ⟨(Nm.Own.new W1 23 #[.slice A' m c']).cell 0, by omega, h.p.below g2.l, fun h0 b off e => ?_⟩
    obtain ⟨b', off', e', hc⟩ := h.p.c h0
    rw [e] at e'
    cases e'
    have hbl : b < w.heap.size := World.block_lt_of_cell? _ _ (hc 0 (by rw [h.p.len]; exact h0)).1
    have := g1.lt
    show b < W1.heap.size + 1
    omega
  have hsz : (W1.alloc (Obj.cells #[.slice A' m c'] 23)).heap.size = W1.heap.size + 1 := by simp
  have hlt := g1.lt
  clear d0 d1 d2 d3 f3 d4 f4
  generalize W1.alloc (Obj.cells #[.slice A' m c'] 23) = W2 at *
  refine wpIn_rangeFunc_ownH (F := Fence.wide) (n := k) rfl h1 (gf := 44) (lb := #[.pointer (some ⟨W1.heap.size, 0, none⟩)]) rfl trivial (enters_of Try.func44 (by kernel_rfl) rfl)
    (back_stops (k - 1) (by omega) W1.heap.size (W1.heap.size + 1) A' m c' d.P W2 hR (by omega)) belowK_t (belowK_b (by omega)) (Below.refl _ _) (fun _ => rfl)
    (fun pre W => (∀ y ∈ pre, y.2.1 ≠ (i : Int)) ∧ G4 w (dv A n c A' m c' L) i ⟨#[]⟩ 0 W ∧ W2.heap.size ≤ W.heap.size)
    (fun c0 pre W => c0 = .ret ∧ ∃ pre' x, pre = pre' ++ [x] ∧ (∀ y ∈ pre', y.2.1 ≠ (i : Int)) ∧ x.2.1 = (i : Int) ∧ G4 w (dv A n c A' m c' L) i x.2.2 0 W)
    (fun s X Y row hs hg hr => ⟨hs.1, hs.2.1.grown hg (fun r e => (hr r e).1) (by omega), Nat.le_trans hs.2.2 hg.size⟩)
    (fun c0 s X Y row hs hg hr => by
      obtain ⟨e1, pre', x, e2, e3, e4, e5⟩ := hs
      exact ⟨e1, pre', x, e2, e3, e4, e5.grown hg (fun r e => (hr r e).1) (by omega)⟩)
    ⟨(fun _ hy => nomatch hy), g2, Nat.le_refl _⟩
    (fun x a' W => ∃ Bx, W2.heap.size ≤ Bx ∧ Nm.Own W Bx 47 #[.int .i64 x.2.1, .string x.2.2] ∧ a' = { tmps := #[.agg (dv A n c A' m c' L), .int .i64 (i : Int), .pointer (some ⟨w.heap.size, 0, none⟩), .pointer (some ⟨w.heap.size + 1, 0, none⟩), .pointer (some ⟨w.heap.size + 1 + 1, 0, none⟩), .pointer (some ⟨w.heap.size + 1 + 1 + 1, 0, none⟩), undef, .pointer (some ⟨Bx, 0, none⟩), .agg #[.slice A n c, .slice A' m c', .int .i64 L], .int .i64 (i : Int), .bool true, .bool false, .pointer (some ⟨w.heap.size, 1, none⟩), .slice A' m c', .func (.func 44) #[] #[.pointer (some ⟨W1.heap.size, 0, none⟩)], .int .i64 x.1, .agg #[.int .i64 x.2.1, .string x.2.2], undef, undef, undef, undef, undef, undef, undef, undef, undef, undef, undef], defers := [] })
    (fun x a' _ X Y row hs hg hr => by obtain ⟨Bx, h0, h1, h3⟩ := hs; exact ⟨Bx, h0, (grownBy_keeps_cells hg (fun r e => (hr r e).2) h1 rfl).trans h1, h3⟩)
    ?assign ?body ?done ?stop
  case assign =>
    rintro l pre x W K ⟨hp, hG, hW⟩ hK
    unfold encW
    have hG2 := hG.low (grow W (Obj.cells #[.int .i64 x.2.1, .string x.2.2] 47)) hG.lt
    gi_wp2
    exact hK _ _ ((KeepsOthers.alloc _ _).from _) ((Below.refl _ W).alloc (by omega) _) ⟨hp, hG2, by simp; omega⟩ ⟨W.heap.size, hW, Nm.Own.new _ _ _, rfl⟩
  case body =>
    rintro l pre x a' W hl ⟨r, hr⟩ ⟨hp, hG, hW⟩ ⟨Bx, hBx, oX, rfl⟩ hlt'
    obtain ⟨d0, d1, d2, d3, f3, d4, f4⟩ := hG.cells
    have x0 := oX.cell 0
    have x1 := oX.cell 1
    have hG2 := hG.set x.2.2 0
    simp only [List.getElem?_toArray, List.getElem?_cons_zero, List.getElem?_cons_succ] at d0 d1 x0 x1
    by_cases hx : x.2.1 = (i : Int)
    · have hx' := Lib.hid hx
      have hx2 : (x.2.1 == (i : Int)) = true := by simp [hx]
      gi_wp2
      exact ⟨((KeepsOthers.setCell _ _ _).trans (KeepsOthers.setCell _ _ _)).from _, rfl, pre, x, rfl, hp, hx, hG2⟩
    · gi_wp2
      exact ⟨(KeepsOthers.refl _).from _, Below.refl _ _, (fun y hy => (List.mem_append.1 hy).elim (hp y) (fun e => by rw [List.mem_singleton.1 e]; exact hx)), hG, hW⟩
  case done =>
    rintro D ys W hD rfl ⟨hp, hG, hW⟩ hK
    obtain ⟨d0, d1, d2, d3, f3, d4, f4⟩ := hG.cells
    simp only [List.getElem?_toArray, List.getElem?_cons_zero, List.getElem?_cons_succ] at d0 d1
    obtain ⟨b, off, e, hc⟩ := (h.b.below hG.l).t.2 (by omega)
    have c1 := hc i hi
    have HG := Lib.hid hG
    have HM := Lib.hid (Dm.get_none (B := d.B) (bk_done hp))
    clear hc hp
    have hin : (i : Int) < (n : Int) := by omega
    gi_wp2
    have hG5 := (HG.out.set (nth d.B i) 0).putObj (D := D) (by omega) (.deferred none)
    obtain ⟨-, -, -, q3, -, q4, -⟩ := hG5.cells
    refine ⟨by simp, .inl ⟨_, _, rfl, run_takeDeferred (((KeepsOthers.setCell W ⟨w.heap.size + 1 + 1, 0, none⟩ (.string (nth d.B i))).trans (KeepsOthers.setCell _ ⟨w.heap.size + 1 + 1 + 1, 0, none⟩ (.int .i64 0))).same D _ hK rfl), ?_⟩⟩
    exact ⟨.tuple #[.string (nth d.B i), .int .i64 0], by simp [results, Try.results22, go_sem, q3, q4], by rw [HM.out], hG5.l⟩
  case stop =>
    rintro D c0 pre W hD hpre ⟨rfl, pre', x, rfl, hne, hx, hG⟩ hK
    obtain ⟨q, hq, e1, e2, e3⟩ := bk_stop hpre hne hx
    have HM := Lib.hid (Dm.get_last (B := d.B) hq e2 e3)
    have hG5 := hG.putObj (D := D) (by omega) (.deferred none)
    obtain ⟨-, -, -, q3, -, q4, -⟩ := hG5.cells
    gi_wp2
    refine ⟨by simp, .inl ⟨_, _, rfl, run_takeDeferred hK, ?_⟩⟩
    exact ⟨.tuple #[.string x.2.2, .int .i64 0], by simp [results, Try.results22, go_sem, q3, q4], by rw [HM.out, e1], hG5.l⟩
def GetIs (d : Dm.Dr) (i : Int) (e : Ending) : Prop :=
  e = .returned (if 0 ≤ i ∧ i < (d.B.length : Int) then .tuple #[.string (Dm.getM d.B d.P i.toNat), .int .i64 0] else .tuple #[.string ⟨#[]⟩, .int .i64 2])
theorem GetIs.yes {d : Dm.Dr} {i : Nat} (h : i < d.B.length) : GetIs d i (.returned (.tuple #[.string (Dm.getM d.B d.P i), .int .i64 0])) := by
  unfold GetIs; rw [if_pos (by omega)]; rfl
theorem GetIs.no {d : Dm.Dr} {i : Int} (h : ¬ (0 ≤ i ∧ i < (d.B.length : Int))) : GetIs d i (.returned (.tuple #[.string ⟨#[]⟩, .int .i64 2])) := by
  unfold GetIs; rw [if_neg h]
theorem get_any (A : Option Addr) (n c : Nat) (A' : Option Addr) (m c' : Nat) (d : Dm.Dr) (i : Int) (w : World) (h : Dz w A n c A' m c' d) :
    Calls Try.prog 22 #[.agg (dv A n c A' m c' d.left), .int .i64 i] w fun e w' => GetIs d i e ∧ Below w.heap.size w w' := by
  have hn : d.B.length = n := h.b.t.1
  by_cases hi : 0 ≤ i ∧ i < (d.B.length : Int)
  · obtain ⟨q, rfl⟩ := Int.eq_ofNat_of_zero_le hi.1
    refine (callsIn_wide.1 (get_yes 4 (by omega) A n c A' m c' d q w h (by omega))).mono ?_
    rintro e w' ⟨rfl, hb⟩
    exact ⟨GetIs.yes (by omega), hb⟩
  · refine (callsIn_wide.1 (get_no 4 (by omega) A n c A' m c' d.left i w (by rw [← hn]; exact hi))).mono ?_
    rintro e w' ⟨rfl, hb⟩
    exact ⟨GetIs.no hi, hb⟩
end Dw
end Go.Proofs.Ytmolbliooaofbaa
