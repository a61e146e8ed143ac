/-
  THE WALK of the inode of a number (inode.Get).
-/
import Derived.Test.YtambgmjiafcokaaDoorIk
namespace Go.Proofs.YtambgmjiafcokaaDoor
set_option linter.unusedVariables false
set_option maxRecDepth 100000
set_option linter.unusedSimpArgs false
open Go.RowKit Go.Shelf
attribute [local go_sem] Oper.semAt_some
namespace Dw
open _root_.Go.Proofs.YtambgmjiafcokaaDoor.Nm hiding Own
/-- what getting answers -/
def GetIs (l : List ByteArray) (n : Int) (e : Ending) : Prop :=
  ((∀ b m, ¬ Vol l b m) ∧ e = .returned (.tuple #[.agg (ic zX), .int .i64 3])) ∨
  (∃ b m, Vol l b m ∧ (n < 1 ∨ (m : Int) < n) ∧ e = .returned (.tuple #[.agg (ic zX), .int .i64 2])) ∨
  (∃ b m j : Nat, Vol l b m ∧ n = ((j : Nat) : Int) ∧ 1 ≤ j ∧ j ≤ m ∧ e = .returned (.tuple #[.agg (ic (getX l j)), .int .i64 0]))
/-- two boxes: the slice, and the answer -/
structure G2 (w : World) (A : Option Addr) (m c : Nat) (W : World) : Prop where
  a : Nm.Own W w.heap.size 22 #[.slice A m c]
  b : Nm.Own W (w.heap.size + 1) 27 (ic zX)
  l : Below w.heap.size w W
theorem G2.low {w W W' : World} {A : Option Addr} {m c n₀ : Nat} (h : G2 w A m c W) (k : Below n₀ W W') (hn : w.heap.size + 2 ≤ n₀) : G2 w A m c W' :=
  ⟨(k.block _ (by omega)).trans h.a, (k.block _ (by omega)).trans h.b, h.l.trans (k.mono (by omega))⟩
theorem G2.lt {w W : World} {A : Option Addr} {m c : Nat} (h : G2 w A m c W) : w.heap.size + 2 ≤ W.heap.size := h.b.lt
theorem G2.new (w : World) (A : Option Addr) (m c : Nat) : G2 w A m c ((w.alloc (Obj.cells #[.slice A m c] 22)).alloc (Obj.cells (ic zX) 27)) := by
  refine ⟨(Nm.Own.new w 22 #[.slice A m c]).alloc _, ?_, grow2 w _ _⟩
  have := Nm.Own.new (w.alloc (Obj.cells #[.slice A m c] 22)) 27 (ic zX)
  rwa [World.size_alloc] at this
theorem ld27i {F : Fence} (hF : Fr.Wd F) {n : Nat} {ops : Array Oper} {rest : List Oper} {o : Oper} {a : Act} {w : World} {Q : Exit → Act → World → Prop} {x : Operand} {g : Nat} {X : Nat → Int}
    (hgd : o.guard = none) (ho : o.op = .load 27 x) (hx : a.eval x = .pointer (some ⟨g, 0, none⟩)) (hg : Nm.Own w g 27 (ic X))
    (h : wpListIn F n Tryd.prog ops Q rest (a.put o.dst (.agg (ic X))) w) : wpListIn F n Tryd.prog ops Q (o :: rest) a w :=
  Fr.step_in hF hgd (fun c e => by rw [ho] at e; cases e) (wp_load_row 27 x ho g hx 27 _ (0, 0) _ hg Tryd.underlying27 rfl (by rw [ic_size]; exact info27) h)
theorem sto27i {F : Fence} (hF : Fr.Wd F) {n : Nat} {ops : Array Oper} {rest : List Oper} {o : Oper} {a : Act} {w : World} {Q : Exit → Act → World → Prop} {x y : Operand} {g : Nat} {X Y : Nat → Int}
    (hgd : o.guard = none) (ho : o.op = .store 27 x y) (hx : a.eval x = .pointer (some ⟨g, 0, none⟩)) (hy : a.eval y = .agg (ic X)) (hg : Nm.Own w g 27 (ic Y))
    (h : ∀ w', Nm.Own w' g 27 (ic X) → St g w w' → wpListIn F n Tryd.prog ops Q rest (a.put o.dst undef) w') : wpListIn F n Tryd.prog ops Q (o :: rest) a w :=
  Fr.step_in hF hgd (fun c e => by rw [ho] at e; cases e) (wp_store_row 27 x y ho g _ hx hy 27 (ic Y) hg (by rw [ic_size]; exact info27) (by rw [ic_size, ic_size]) (ic_one X) (h _ (setRow_heap w g (ic Y) _ 27 (0, 0) hg) (St.row w g _)))
/-- the boxes of the loop -/
structure GI (w : World) (A : Option Addr) (m c B : Nat) (K at' : Int) (X : Nat → Int) (W : World) : Prop where
  g : G2 w A m c W
  kb : Nm.Own W B 3 #[.int .i64 K]
  ab : Nm.Own W (B + 1) 3 #[.int .i64 at']
  xb : Nm.Own W (B + 2) 27 (ic X)
  le : w.heap.size + 2 ≤ B
theorem GI.lt {w W : World} {A : Option Addr} {m c B : Nat} {K at' : Int} {X : Nat → Int} (h : GI w A m c B K at' X W) : B + 3 ≤ W.heap.size := h.xb.lt
theorem GI.low {w W W' : World} {A : Option Addr} {m c B n₀ : Nat} {K at' : Int} {X : Nat → Int} (h : GI w A m c B K at' X W) (k : Below n₀ W W') (hn : B + 3 ≤ n₀) : GI w A m c B K at' X W' :=
  ⟨h.g.low k (by have := h.le; omega), (k.block _ (by omega)).trans h.kb, (k.block _ (by omega)).trans h.ab, (k.block _ (by omega)).trans h.xb, h.le⟩
theorem GI.below {w W W' : World} {A : Option Addr} {m c B : Nat} {K at' : Int} {X : Nat → Int} (h : GI w A m c B K at' X W) (k : Below W.heap.size W W') : GI w A m c B K at' X W' := h.low k h.lt
theorem GI.grown {w W W' : World} {A : Option Addr} {m c B n₀ : Nat} {K at' : Int} {X : Nat → Int} {row : Option Nat} (h : GI w A m c B K at' X W) (hg : W.grownBy W' row) (hr : ∀ r, row = some r → n₀ ≤ r) (hB : B + 3 ≤ n₀) : GI w A m c B K at' X W' := by
  have hl := h.lt
  have hle := h.le
  have hk : ∀ k, k < B + 3 → W'.heap[k]? = W.heap[k]? := fun k hk => hg.block k (by omega) (fun e => by have := hr k e.symm; omega)
  exact ⟨⟨(hk _ (by omega)).trans h.g.a, (hk _ (by omega)).trans h.g.b, h.g.l.grown hg (by omega) (fun k e => by have := hr k e; omega)⟩, (hk _ (by omega)).trans h.kb, (hk _ (by omega)).trans h.ab, (hk _ (by omega)).trans h.xb, hle⟩
theorem GI.putObj {w W : World} {A : Option Addr} {m c B D : Nat} {K at' : Int} {X : Nat → Int} (h : GI w A m c B K at' X W) (hD : B + 3 ≤ D) (o : Obj) : GI w A m c B K at' X (W.putObj D o) :=
  h.grown (grownBy_putObj' W D o) (fun r e => by cases e; exact Nat.le_refl _) hD
theorem GI.drew {w W : World} {A : Option Addr} {m c B : Nat} {K at' : Int} {X : Nat → Int} (h : GI w A m c B K at' X W) : GI w A m c B K at' X W.drew :=
  ⟨⟨h.g.a, h.g.b, h.g.l.drew⟩, h.kb, h.ab, h.xb, h.le⟩
theorem GI.setX {w W : World} {A : Option Addr} {m c B : Nat} {K at' : Int} {X : Nat → Int} (h : GI w A m c B K at' X W) {q : Nat} (hq : q < 12) (v : Int) : GI w A m c B K at' (upd X q v) (W.setCell ⟨B + 2, Ni.cl q, none⟩ (.int .i64 v)) := by
  have hle := h.le
  refine ⟨⟨h.g.a.other (by simp; omega) _, h.g.b.other (by simp; omega) _, h.g.l.setCell (p := ⟨B + 2, Ni.cl q, none⟩) (by simp; omega) _⟩, h.kb.other (by simp) _, h.ab.other (by simp) _, ?_, hle⟩
  have := h.xb.set (Ni.cl q) (.int .i64 v)
  rwa [ic_set X v q hq] at this
theorem GI.setA {w W : World} {A : Option Addr} {m c B : Nat} {K at' : Int} {X : Nat → Int} (h : GI w A m c B K at' X W) (a2 : Int) : GI w A m c B K a2 X (W.setCell ⟨B + 1, 0, none⟩ (.int .i64 a2)) := by
  have hle := h.le
  exact ⟨⟨h.g.a.other (by simp; omega) _, h.g.b.other (by simp; omega) _, h.g.l.setCell (p := ⟨B + 1, 0, none⟩) (by simp; omega) _⟩, h.kb.other (by simp) _, h.ab.set 0 _, h.xb.other (by simp) _, hle⟩
/-- the fields that were handed on, read from a place on: the next place, the numbers -/
def gst (T : List UInt8) (a : Nat) (xs : List (Fin 12)) : Nat × (Nat → Int) := xs.foldl (fun s q => (s.1 + Ni.sz q.val, upd s.2 q.val (Nu.getB ((T.drop s.1).take (Ni.sz q.val)) : Nat))) (a, zX)
theorem gst_next (T : List UInt8) (a : Nat) (xs : List (Fin 12)) (q : Fin 12) : gst T a (xs ++ [q]) = ((gst T a xs).1 + Ni.sz q.val, upd (gst T a xs).2 q.val (Nu.getB ((T.drop (gst T a xs).1).take (Ni.sz q.val)) : Nat)) := by
  unfold gst
  rw [List.foldl_append]
  rfl
theorem gst_le (T : List UInt8) (a : Nat) (xs : List (Fin 12)) : (gst T a xs).1 ≤ a + 4 * xs.length := by
  have key : ∀ (xs : List (Fin 12)) (s : Nat × (Nat → Int)), (xs.foldl (fun s q => (s.1 + Ni.sz q.val, upd s.2 q.val (Nu.getB ((T.drop s.1).take (Ni.sz q.val)) : Nat))) s).1 ≤ s.1 + 4 * xs.length := by
    intro xs
    induction xs with
    | nil => intro s; exact Nat.le_refl _
    | cons q xs ih =>
      intro s
      rw [List.foldl_cons, List.length_cons]
      refine Nat.le_trans (ih _) ?_
      have := (Ni.sz_le q.val q.isLt).2
      simp
      omega
  exact key xs _
theorem gst_fr (T : List UInt8) (a : Nat) : ∀ k, k ≤ 12 → (gst T a (fr k)).1 = a + Ni.of k ∧ ∀ p, (gst T a (fr k)).2 p = if p < k then Ni.dec (T.drop a) p else 0
  | 0, _ => ⟨rfl, fun p => rfl⟩
  | k + 1, h => by
    obtain ⟨h1, h2⟩ := gst_fr T a k (by omega)
    rw [← fr_next (show k < 12 by omega), gst_next, h1, Ni.of_next k (by omega)]
    refine ⟨by simp; omega, fun p => ?_⟩
    show upd (gst T a (fr k)).2 k _ p = _
    unfold upd
    by_cases e : p = k
    · subst e
      rw [if_pos rfl, if_pos (by omega)]
      unfold Ni.dec Ni.fld
      rw [List.drop_drop]
    · rw [if_neg e, h2 p]
      by_cases hp : p < k
      · rw [if_pos hp, if_pos (by omega)]
      · rw [if_neg hp, if_neg (by omega)]
theorem gst_all (T : List UInt8) (a : Nat) : ic (gst T a (List.finRange 12)).2 = ic (Ni.dec (T.drop a)) := by
  rw [← fr_all]
  refine ic_congr fun q hq => ?_
  rw [(gst_fr T a 12 (Nat.le_refl _)).2 q, if_pos hq]
theorem low_take (T : ByteArray) (t z : Nat) (hz : z ≤ 4) : low (T.extract t (t + z)) = ((toL T).drop t).take z := by
  unfold low
  rw [toL_extract, List.take_take]
  congr 1
  omega
set_option maxHeartbeats 2000000 in
theorem get_in (k : Nat) (hk : 4 ≤ k) (A : Option Addr) (m c : Nat) (l : List ByteArray) (n : Int) (w : World) (hl : Tz w A m c l) (hL : Lit l m) :
    CallsIn Fence.wide k Tryd.prog 12 #[.slice A m c, .int .i64 n] w fun e w' => GetIs l n e ∧ Below w.heap.size w w' := by
  have h1 : 1 ≤ k := by omega
  have g0 := G2.new w A m c
  have hwh := where_any A m c l n ((w.alloc (Obj.cells #[.slice A m c] 22)).alloc (Obj.cells (ic zX) 27)) (hl.below g0.l) hL
  have c0 : ((w.alloc (Obj.cells #[.slice A m c] 22)).alloc (Obj.cells (ic zX) 27)).cell? ⟨w.heap.size, 0, none⟩ = some (.slice A m c) := g0.a.cell 0
  refine callsIn_of_wp_marks Tryd.func12 rfl trivial ?_ rfl
  simp only [Tryd.ntmps12, List.size_toArray, List.length_cons, List.length_nil, Nat.reduceAdd, Nat.reduceSub, Array.replicate_succ, Array.replicate_zero, List.push_toArray, List.append_toArray, List.nil_append, List.cons_append]
  gi_wp2
  refine ⟨trivial, (callsIn_wide.2 hwh).mono ?_⟩
  rintro e W1 ⟨hw1, hx1⟩
  have g1 := g0.low hx1 g0.lt
  clear g0 hwh c0 hx1
  have hlt1 := g1.lt
  have hge1 : w.heap.size ≤ W1.heap.size := by omega
  rcases hw1 with ⟨hv, rfl⟩ | ⟨b, y, hv, hn, rfl⟩ | ⟨b, y, j, hv, rfl, hj1, hj2, rfl⟩
  · have HV := Lib.hid hv
    clear hv
    have hb2 := g1.l.trans ((grow2 W1 (Obj.cells #[.int .i64 0] 3) (Obj.cells #[.int .i64 0] 3)).mono hge1)
    gi_wp2_with (refine sto27i (.inl rfl) (X := zX) rfl rfl rfl rfl (((g1.b.alloc _).alloc _)) ?_)
    intro w5 o5 s5
    have hb5 := s5.below hb2 (by omega)
    gi_wp2
    refine ⟨.tuple #[.agg (ic zX), .int .i64 3], by simp [results, Tryd.results12, asAddr, run_loadVar_row _ _ 27 27 _ (0, 0) _ o5 Tryd.underlying27 rfl (by rw [ic_size]; exact info27)], .inl ⟨HV.out, rfl⟩, hb5⟩
  · have HV := Lib.hid hv
    have HN := Lib.hid hn
    clear hv hn
    have hb2 := g1.l.trans ((grow2 W1 (Obj.cells #[.int .i64 0] 3) (Obj.cells #[.int .i64 0] 3)).mono hge1)
    gi_wp2_with (refine sto27i (.inl rfl) (X := zX) rfl rfl rfl rfl (((g1.b.alloc _).alloc _)) ?_)
    intro w5 o5 s5
    have hb5 := s5.below hb2 (by omega)
    gi_wp2
    refine ⟨.tuple #[.agg (ic zX), .int .i64 2], by simp [results, Tryd.results12, asAddr, run_loadVar_row _ _ 27 27 _ (0, 0) _ o5 Tryd.underlying27 rfl (by rw [ic_size]; exact info27)], .inr (.inl ⟨b, y, HV.out, HN.out, rfl⟩), hb5⟩
  · have hbk := bk_lt hv hj1 hj2
    have hmb : l.length = m := hl.t.1
    obtain ⟨b0, off, rfl, hcell⟩ := hl.t.2 (by omega)
    have hb0 : b0 < w.heap.size := World.block_lt_of_cell? _ _ (hcell 0 (by omega))
    have hcT := hcell (bk j) (by omega)
    have hsT : (nth l (bk j)).size = 128 := hv.blk _ (by omega)
    have hKm : (bk j : Int) < (m : Int) := by omega
    have hpl := pl_le j
    have HV := Lib.hid hv
    have HX := Lib.hid (show getX l j = Ni.dec ((toL (nth l (bk j))).drop (pl j)) from rfl)
    have hplz := pl_two j
    generalize hT : nth l (bk j) = T at *
    generalize bk j = K at *
    generalize pl j = a at *
    clear hT hcell hv
    have g2 : GI w (some ⟨b0, off, none⟩) m c W1.heap.size K a zX (((W1.alloc (Obj.cells #[.int .i64 K] 3)).alloc (Obj.cells #[.int .i64 a] 3)).alloc (Obj.cells (ic zX) 27)) := by
      have e1 := ((Nm.Own.new W1 3 #[.int .i64 K]).alloc (Obj.cells #[.int .i64 a] 3)).alloc (Obj.cells (ic zX) 27)
      have e2 := (Nm.Own.new (W1.alloc (Obj.cells #[.int .i64 K] 3)) 3 #[.int .i64 a]).alloc (Obj.cells (ic zX) 27)
      have e3 := Nm.Own.new ((W1.alloc (Obj.cells #[.int .i64 K] 3)).alloc (Obj.cells #[.int .i64 a] 3)) 27 (ic zX)
      rw [World.size_alloc] at e2
      rw [World.size_alloc, World.size_alloc] at e3
      exact ⟨⟨((g1.a.alloc _).alloc _).alloc _, ((g1.b.alloc _).alloc _).alloc _, g1.l.trans (((grow2 W1 _ _).alloc (by simp; omega) _).mono hge1)⟩, e1, e2, e3, hlt1⟩
    have hc := fields_any (W1.heap.size + 1 + 1) (((W1.alloc (Obj.cells #[.int .i64 K] 3)).alloc (Obj.cells #[.int .i64 a] 3)).alloc (Obj.cells (ic zX) 27)) _ rfl
    gi_wp2
    refine ⟨trivial, (callsIn_wide.2 hc).mono ?_⟩
    rintro e W2 ⟨⟨Bn, r, cf, rfl, hF, hBn⟩, hx2⟩
    have g3 := g2.low hx2 g2.lt
    have hsz : (((W1.alloc (Obj.cells #[.int .i64 K] 3)).alloc (Obj.cells #[.int .i64 a] 3)).alloc (Obj.cells (ic zX) 27)).heap.size = W1.heap.size + 3 := by simp
    rw [hsz] at hBn hx2
    clear g2 hc hsz g1
    generalize W1.heap.size = B at *
    have hlt2 := g3.lt
    gi_wp2
    have hFb := hF.lt
    have hFr := hF.lr
    refine wpIn_rangeFunc_ownH (F := Fence.wide) (n := k) rfl h1 (gf := 39) (lb := #[.pointer (some ⟨Bn, 0, none⟩)]) rfl trivial (enters_of Tryd.func39 (by kernel_rfl) rfl)
      (it_stops (k - 1) (by omega) Bn r cf (B + 2) W2 hF) (fun h k => h.trans k) (fun W l o o' hl ho hc hw => Kf.putObj W o' (by omega) (by omega)) (Below.refl _ _) (fun _ => rfl)
      (fun pre W => GI w (some ⟨b0, off, none⟩) m c B K (gst (toL T) a pre).1 (gst (toL T) a pre).2 W ∧ W2.heap.size ≤ W.heap.size ∧ True)
      (fun c0 pre W => False)
      (fun s Y Z row hs hg hr => ⟨hs.1.grown hg (fun r e => (hr r e).1) (by omega), Nat.le_trans hs.2.1 hg.size, trivial⟩)
      (fun c0 s Y Z row hs hg hr => hs)
      ⟨g3, Nat.le_refl _, trivial⟩
      (fun x a' W => ∃ Bx, W2.heap.size ≤ Bx ∧ Nm.Own W Bx 54 #[.pointer (some ⟨B + 2, Ni.cl x.val, none⟩), .int .i64 (Ni.sz x.val : Nat)] ∧ a' = { tmps := #[.slice (some ⟨b0, off, none⟩) m c, .int .i64 j, .pointer (some ⟨w.heap.size, 0, none⟩), undef, .pointer (some ⟨w.heap.size + 1, 0, none⟩), .int .i64 0, .pointer (some ⟨B, 0, none⟩), .pointer (some ⟨B + 1, 0, none⟩), .int .i64 0, .pointer (some ⟨B + 2, 0, none⟩), .pointer (some ⟨Bx, 0, none⟩), .tuple #[.int .i64 K, .int .i64 a, .int .i64 0], .slice (some ⟨b0, off, none⟩) m c, .int .i64 j, .tuple #[.int .i64 K, .int .i64 a, .int .i64 0], .int .i64 K, .int .i64 a, .int .i64 0, .int .i64 0, .bool false, undef, undef, .func (.func 39) #[] #[.pointer (some ⟨Bn, 0, none⟩)], .agg #[.pointer (some ⟨B + 2, Ni.cl x.val, none⟩), .int .i64 (Ni.sz x.val : Nat)], undef, undef, undef, undef, undef, undef, undef, undef, undef, undef, undef, undef, undef, undef, undef, undef, undef, undef, undef, undef], defers := [] })
      (fun x a' _ Y Z row hs hg hr => by obtain ⟨Bx, h0, h1, h3⟩ := hs; exact ⟨Bx, h0, (grownBy_keeps_cells hg (fun r e => (hr r e).2) h1 rfl).trans h1, h3⟩)
      ?assign ?body ?done ?stop
    case assign =>
      rintro l pre x W K' ⟨hG, hW, _⟩ hK
      unfold encF
      have hG2 := hG.below (grow W (Obj.cells #[.pointer (some ⟨B + 2, Ni.cl x.val, none⟩), .int .i64 (Ni.sz x.val : Nat)] 54))
      gi_wp2
      exact hK _ _ ((KeepsOthers.alloc _ _).from _) (Kf.below ((Below.refl _ W).alloc (Nat.le_refl _) _) (by omega) (by omega) (by simp)) ⟨hG2, by simp; omega, trivial⟩ ⟨W.heap.size, hW, Nm.Own.new _ _ _, rfl⟩
    case body =>
      rintro l' pre x a' W hl' ⟨r', hr'⟩ ⟨hG, hW, _⟩ ⟨Bx, hBx, oX, rfl⟩ hlt'
      have x0 := oX.cell 0
      have x1 := oX.cell 1
      simp only [List.getElem?_toArray, List.getElem?_cons_zero, List.getElem?_cons_succ] at x0 x1
      have hgl := gst_le (toL T) a pre
      have hgn := gst_next (toL T) a pre x
      have hz := Ni.sz_le x.val x.isLt
      have hq := x.isLt
      have hGn := hG.drew.setX hq (Nu.getB (((toL T).drop (gst (toL T) a pre).1).take (Ni.sz x.val)) : Nat)
      have hGn2 := hGn.setA (((gst (toL T) a pre).1 : Int) + (Ni.sz x.val : Int))
      have y1 : W.cell? ⟨w.heap.size, 0, none⟩ = some (.slice (some ⟨b0, off, none⟩) m c) := hG.g.a.cell 0
      have y2 : W.cell? ⟨B, 0, none⟩ = some (.int .i64 (K : Int)) := hG.kb.cell 0
      have y3 : W.cell? ⟨B + 1, 0, none⟩ = some (.int .i64 ((gst (toL T) a pre).1 : Nat)) := hG.ab.cell 0
      have y4 : W.cell? ⟨b0, off + K, none⟩ = some (.string T) := (hG.g.l.cell (p := ⟨b0, off + K, none⟩) hb0).trans hcT
      have y5 : ∃ u, W.cell? ⟨B + 2, Ni.cl x.val, none⟩ = some (.int .i64 u) := ⟨_, (hG.xb.cell _).trans (ic_get _ _ hq)⟩
      have y6 := hG.xb.frozen (Ni.cl x.val)
      have HG := Lib.hid hGn2
      have HN := Lib.hid hgn
      have hle := hG.le
      have hGlt := hG.lt
      have hF1 := hGn.ab.frozen 0
      clear hGn2 hG hGn
      have HLW := Lib.hid (congrArg Nu.getB (low_take T (gst (toL T) a pre).1 (Ni.sz x.val) hz.2))
      have hgb : Nu.getB (((toL T).drop (gst (toL T) a pre).1).take (Ni.sz x.val)) < 256 ^ 4 := by
        refine Nat.lt_of_lt_of_le (Nu.getB_lt _) (Nat.pow_le_pow_right (by decide) ?_)
        exact Nat.le_trans (List.length_take_le _ _) hz.2
      rw [show (256 : Nat) ^ 4 = 4294967296 from rfl] at hgb
      generalize Nu.getB (((toL T).drop (gst (toL T) a pre).1).take (Ni.sz x.val)) = V at *
      generalize (gst (toL T) a pre).1 = t at *
      generalize Ni.sz x.val = z at *
      generalize Ni.cl x.val = p at *
      have hF1 : (W.setCell ⟨B + 2, p, none⟩ (.int .i64 (V : Int))).drew.frozen? ⟨B + 1, 0, none⟩ = false := hF1
      have e1 : IntKind.i64.wrap ((t : Int) + (z : Int)) = (t : Int) + (z : Int) := IntWalk.i64_in _ (by omega)
      have e2 : IntKind.i64.wrap (V : Int) = (V : Int) := IntWalk.i64_in _ (by omega)
      have e3 : (t : Int) ≤ (t : Int) + (z : Int) := by omega
      have e4 : (t : Int) + (z : Int) ≤ 128 := by omega
      have hsE : (T.extract t (t + z)).size = z := by rw [ByteArray.size_extract]; omega
      have e5 : ((t : Int) + (z : Int)).toNat = t + z := by omega
      have e6 : 0 ≤ (t : Int) + (z : Int) := by omega
      obtain ⟨u5, y5⟩ := y5
      have y5d : W.drew.cell? ⟨B + 2, p, none⟩ = some (.int .i64 u5) := y5
      have y6d : W.drew.frozen? ⟨B + 2, p, none⟩ = false := y6
      gi_wp2
      refine Fr.region_held (.inr ⟨_, rfl⟩) (S := fun U => U.cell? ⟨Bx, 0, none⟩ = some (.pointer (some ⟨B + 2, p, none⟩)) ∧ U.cell? ⟨Bx, 1, none⟩ = some (.int .i64 (z : Int)) ∧ U.cell? ⟨w.heap.size, 0, none⟩ = some (.slice (some ⟨b0, off, none⟩) m c) ∧ U.cell? ⟨B, 0, none⟩ = some (.int .i64 (K : Int)) ∧ U.cell? ⟨B + 1, 0, none⟩ = some (.int .i64 (t : Int)) ∧ U.cell? ⟨b0, off + K, none⟩ = some (.string T)) (by kernel_rfl) (by kernel_rfl) ⟨x0, x1, y1, y2, y3, y4⟩ (fun hHeld => ?_)
      refine wpAnyH_take (i := 0) (oi := { dst := some 24, op := Op.fieldAddr 54 (Operand.tmp 10) 0, type := _, pos := _, after := _, guard := _ }) (v := ?_) rfl (by kernel_rfl) (by kernel_rfl) (by kernel_rfl) (fun _ _ _ h => h) (Or.inl ⟨by rfl, ?_⟩) hHeld ?_
      rotate_left
      · intro wq hSw
        go_simp
        rfl
      try simp only [Act.put, List.setIfInBounds_toArray, List.set_cons_zero, List.set_cons_succ]
      refine wpAnyH_take (i := 1) (oi := { dst := some 25, op := Op.load 52 (Operand.tmp 24), type := _, pos := _, after := _, guard := _ }) (v := ?_) rfl (by kernel_rfl) (by kernel_rfl) (by kernel_rfl) (fun _ _ _ h => h) (Or.inl ⟨by rfl, ?_⟩) hHeld ?_
      rotate_left
      · intro wq hSw
        obtain ⟨s1, s2, s3, s4, s5, s6⟩ := hSw
        go_simp
        rfl
      try simp only [Act.put, List.setIfInBounds_toArray, List.set_cons_zero, List.set_cons_succ]
      refine wpAnyH_take (i := 2) (oi := { dst := some 26, op := Op.load 22 (Operand.tmp 2), type := _, pos := _, after := _, guard := _ }) (v := ?_) rfl (by kernel_rfl) (by kernel_rfl) (by kernel_rfl) (fun _ _ _ h => h) (Or.inl ⟨by rfl, ?_⟩) hHeld ?_
      rotate_left
      · intro wq hSw
        obtain ⟨s1, s2, s3, s4, s5, s6⟩ := hSw
        go_simp
        rfl
      try simp only [Act.put, List.setIfInBounds_toArray, List.set_cons_zero, List.set_cons_succ]
      refine wpAnyH_take (i := 3) (oi := { dst := some 27, op := Op.load 3 (Operand.tmp 6), type := _, pos := _, after := _, guard := _ }) (v := ?_) rfl (by kernel_rfl) (by kernel_rfl) (by kernel_rfl) (fun _ _ _ h => h) (Or.inl ⟨by rfl, ?_⟩) hHeld ?_
      rotate_left
      · intro wq hSw
        obtain ⟨s1, s2, s3, s4, s5, s6⟩ := hSw
        go_simp
        rfl
      try simp only [Act.put, List.setIfInBounds_toArray, List.set_cons_zero, List.set_cons_succ]
      refine wpAnyH_take (i := 4) (oi := { dst := some 28, op := Op.indexAddr 22 (Operand.tmp 26) (Operand.tmp 27), type := _, pos := _, after := _, guard := _ }) (v := ?_) rfl (by kernel_rfl) (by kernel_rfl) (by kernel_rfl) (fun _ _ _ h => h) (Or.inl ⟨by rfl, ?_⟩) hHeld ?_
      rotate_left
      · intro wq hSw
        go_simp
        rfl
      try simp only [Act.put, List.setIfInBounds_toArray, List.set_cons_zero, List.set_cons_succ]
      refine wpAnyH_take (i := 5) (oi := { dst := some 29, op := Op.load 9 (Operand.tmp 28), type := _, pos := _, after := _, guard := _ }) (v := ?_) rfl (by kernel_rfl) (by kernel_rfl) (by kernel_rfl) (fun _ _ _ h => h) (Or.inl ⟨by rfl, ?_⟩) hHeld ?_
      rotate_left
      · intro wq hSw
        obtain ⟨s1, s2, s3, s4, s5, s6⟩ := hSw
        go_simp
        rfl
      try simp only [Act.put, List.setIfInBounds_toArray, List.set_cons_zero, List.set_cons_succ]
      refine wpAnyH_take (i := 6) (oi := { dst := some 30, op := Op.load 3 (Operand.tmp 7), type := _, pos := _, after := _, guard := _ }) (v := ?_) rfl (by kernel_rfl) (by kernel_rfl) (by kernel_rfl) (fun _ _ _ h => h) (Or.inl ⟨by rfl, ?_⟩) hHeld ?_
      rotate_left
      · intro wq hSw
        obtain ⟨s1, s2, s3, s4, s5, s6⟩ := hSw
        go_simp
        rfl
      try simp only [Act.put, List.setIfInBounds_toArray, List.set_cons_zero, List.set_cons_succ]
      refine wpAnyH_take (i := 7) (oi := { dst := some 31, op := Op.load 3 (Operand.tmp 7), type := _, pos := _, after := _, guard := _ }) (v := ?_) rfl (by kernel_rfl) (by kernel_rfl) (by kernel_rfl) (fun _ _ _ h => h) (Or.inl ⟨by rfl, ?_⟩) hHeld ?_
      rotate_left
      · intro wq hSw
        obtain ⟨s1, s2, s3, s4, s5, s6⟩ := hSw
        go_simp
        rfl
      try simp only [Act.put, List.setIfInBounds_toArray, List.set_cons_zero, List.set_cons_succ]
      refine wpAnyH_take (i := 8) (oi := { dst := some 32, op := Op.fieldAddr 54 (Operand.tmp 10) 1, type := _, pos := _, after := _, guard := _ }) (v := ?_) rfl (by kernel_rfl) (by kernel_rfl) (by kernel_rfl) (fun _ _ _ h => h) (Or.inl ⟨by rfl, ?_⟩) hHeld ?_
      rotate_left
      · intro wq hSw
        go_simp
        rfl
      try simp only [Act.put, List.setIfInBounds_toArray, List.set_cons_zero, List.set_cons_succ]
      refine wpAnyH_take (i := 9) (oi := { dst := some 33, op := Op.load 3 (Operand.tmp 32), type := _, pos := _, after := _, guard := _ }) (v := ?_) rfl (by kernel_rfl) (by kernel_rfl) (by kernel_rfl) (fun _ _ _ h => h) (Or.inl ⟨by rfl, ?_⟩) hHeld ?_
      rotate_left
      · intro wq hSw
        obtain ⟨s1, s2, s3, s4, s5, s6⟩ := hSw
        go_simp
        rfl
      try simp only [Act.put, List.setIfInBounds_toArray, List.set_cons_zero, List.set_cons_succ]
      refine wpAnyH_take (i := 10) (oi := { dst := some 34, op := Op.binOp BinOp.add 3 (Operand.tmp 31) (Operand.tmp 33) 3, type := _, pos := _, after := _, guard := _ }) (v := ?_) rfl (by kernel_rfl) (by kernel_rfl) (by kernel_rfl) (fun _ _ _ h => h) (Or.inl ⟨by rfl, ?_⟩) hHeld ?_
      rotate_left
      · intro wq hSw
        go_simp
        rfl
      try simp only [Act.put, List.setIfInBounds_toArray, List.set_cons_zero, List.set_cons_succ]
      refine wpAnyH_take (i := 11) (oi := { dst := some 35, op := Op.slice 9 (Operand.tmp 29) (some (Operand.tmp 30)) (some (Operand.tmp 34)) none, type := _, pos := _, after := _, guard := _ }) (v := ?_) rfl (by kernel_rfl) (by kernel_rfl) (by kernel_rfl) (fun _ _ _ h => h) (Or.inl ⟨by rfl, ?_⟩) hHeld ?_
      rotate_left
      · intro wq hSw
        go_simp
        rfl
      try simp only [Act.put, List.setIfInBounds_toArray, List.set_cons_zero, List.set_cons_succ]
      refine wpAnyH_ready (rs := [12]) (by kernel_rfl) (by simp) ?_
      refine AllReadyH.cons (o := { dst := some 36, op := Op.call { callee := Callee.value (Operand.func 25), args := #[Operand.tmp 35], argTypes := #[9] }, type := _, pos := _, after := _, guard := _ }) rfl (fun KK hKK => ?_) AllReadyH.nil
      have hKS := Lib.hid hKK
      clear hKK
      go_simp
      refine (get_any _ _ (by rw [hsE]; omega)).mono ?_
      rintro e w12 ⟨rfl, rfl⟩
      rw [HLW.out]
      go_wp2_with fail
      refine hKS.out.out _ _ hHeld (fun hHeld => ?_)
      clear hKS KK
      try simp only [Act.put, List.setIfInBounds_toArray, List.set_cons_zero, List.set_cons_succ]
      refine wpAnyH_take (i := 13) (oi := { dst := some 37, op := Op.convert 55 3 (Operand.tmp 36), type := _, pos := _, after := _, guard := _ }) (v := ?_) rfl (by kernel_rfl) (by kernel_rfl) (by kernel_rfl) (fun _ _ _ h => h) (Or.inl ⟨by rfl, ?_⟩) hHeld ?_
      rotate_left
      · intro wq hSw
        go_simp
        rfl
      try simp only [Act.put, List.setIfInBounds_toArray, List.set_cons_zero, List.set_cons_succ]
      refine wpAnyH_take (i := 14) (oi := { dst := some 38, op := Op.nilCheck (Operand.tmp 25), type := _, pos := _, after := _, guard := _ }) (v := ?_) rfl (by kernel_rfl) (by kernel_rfl) (by kernel_rfl) (fun _ _ _ h => h) (Or.inl ⟨by rfl, ?_⟩) hHeld ?_
      rotate_left
      · intro wq hSw
        go_simp
        rfl
      try simp only [Act.put, List.setIfInBounds_toArray, List.set_cons_zero, List.set_cons_succ]
      refine wpAnyH_ready (rs := [15]) (by kernel_rfl) (by simp) ?_
      refine AllReadyH.cons (o := { dst := none, op := Op.store 3 (Operand.tmp 38) (Operand.tmp 37), type := _, pos := _, after := _, guard := _ }) rfl (fun KK hKK => ?_) AllReadyH.nil
      have hKS := Lib.hid hKK
      clear hKK
      go_simp
      have hS2 : (fun U : World => U.cell? ⟨Bx, 0, none⟩ = some (.pointer (some ⟨B + 2, p, none⟩)) ∧ U.cell? ⟨Bx, 1, none⟩ = some (.int .i64 (z : Int)) ∧ U.cell? ⟨w.heap.size, 0, none⟩ = some (.slice (some ⟨b0, off, none⟩) m c) ∧ U.cell? ⟨B, 0, none⟩ = some (.int .i64 (K : Int)) ∧ U.cell? ⟨B + 1, 0, none⟩ = some (.int .i64 (t : Int)) ∧ U.cell? ⟨b0, off + K, none⟩ = some (.string T)) (W.setCell ⟨B + 2, p, none⟩ (.int .i64 V)).drew := ⟨(World.cell?_setCell_far _ _ _ _ (by simp <;> omega)).trans hHeld.1, (World.cell?_setCell_far _ _ _ _ (by simp <;> omega)).trans hHeld.2.1, (World.cell?_setCell_far _ _ _ _ (by simp <;> omega)).trans hHeld.2.2.1, (World.cell?_setCell_far _ _ _ _ (by simp <;> omega)).trans hHeld.2.2.2.1, (World.cell?_setCell_far _ _ _ _ (by simp <;> omega)).trans hHeld.2.2.2.2.1, (World.cell?_setCell_far _ _ _ _ (by simp <;> omega)).trans hHeld.2.2.2.2.2⟩
      refine hKS.out.out _ _ hS2 (fun hHeld => ?_)
      clear hKS KK
      try simp only [Act.put, List.setIfInBounds_toArray, List.set_cons_zero, List.set_cons_succ]
      refine wpAnyH_done (by kernel_rfl) ?_ _
      refine Fr.nq ?_
      have z1 := hHeld.2.1
      have z3 := hHeld.2.2.2.2.1
      gi_wp2
      refine ⟨(((KeepsOthers.setCell _ _ _).trans (KeepsOthers.setCell _ _ _)).trans (KeepsOthers.drew _)).from _, (((Kf.refl Bn r W).setCell (a := ⟨B + 2, p, none⟩) _ (by simp <;> omega) (by simp <;> omega)).setCell (a := ⟨B + 1, 0, none⟩) _ (by simp <;> omega) (by simp <;> omega)), ?_, by simp <;> omega⟩
      rw [HN.out]
      have := HG.out
      exact (show (((t + z : Nat) : Int)) = (t : Int) + (z : Int) by omega) ▸ ⟨⟨this.g.a, this.g.b, this.g.l⟩, this.kb, this.ab, this.xb, this.le⟩
    case done =>
      rintro D ys W hD rfl ⟨hG, hW, _⟩ hK
      have hKD := Lib.hid hK
      have oB := hG.xb
      have oR := hG.g.b
      rw [gst_all] at oB
      have hbl := hG.g.l
      clear hG
      gi_wp2_with (first | refine ld27i (.inl rfl) rfl rfl rfl oB ?_ | (refine sto27i (.inl rfl) rfl rfl rfl rfl oR ?_; intro w5 o5 s5))
      have hb5 := s5.below hbl (by omega)
      have hD5 : w5.heap[D]? = some (.deferred (some [])) := (s5.block D (by omega)).trans hKD.out
      have hg5 := grownBy_putObj' w5 D (.deferred none)
      have o6 : Nm.Own (w5.putObj D (.deferred none)) (w.heap.size + 1) 27 (ic (Ni.dec ((toL T).drop a))) := (hg5.block _ o5.lt (by simp; omega)).trans o5
      have hb6 := hb5.grown hg5 (by have := s5.size; omega) (fun k e => by cases e; omega)
      refine ⟨by simp, .inl ⟨_, _, rfl, run_takeDeferred hD5, ?_⟩⟩
      exact ⟨.tuple #[.agg (ic (Ni.dec ((toL T).drop a))), .int .i64 0], by simp [results, Tryd.results12, asAddr, run_loadVar_row _ _ 27 27 _ (0, 0) _ o6 Tryd.underlying27 rfl (by rw [ic_size]; exact info27)], .inr (.inr ⟨b, y, j, HV.out, rfl, hj1, hj2, by rw [HX.out]⟩), hb6⟩
    case stop =>
      rintro D c0 pre W hD hpre hX hK
      exact False.elim hX
theorem iget_any (A : Option Addr) (m c : Nat) (l : List ByteArray) (n : Int) (w : World) (hl : Tz w A m c l) (hL : Lit l m) :
    Calls Tryd.prog 12 #[.slice A m c, .int .i64 n] w fun e w' => GetIs l n e ∧ Below w.heap.size w w' := callsIn_wide.1 (get_in 4 (by omega) A m c l n w hl hL)
end Dw
end Go.Proofs.YtambgmjiafcokaaDoor
