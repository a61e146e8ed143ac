/-
  THE WALK of the code's Cut: it takes up the five parts.
-/
import Derived.Test.YtgfnpemonpebpaaIt
import Derived.Laws.MakeOwn
namespace Go.Proofs.Ytgfnpemonpebpaa
open Go.RowKit Go.Shelf
set_option linter.unusedVariables false
set_option linter.unusedSimpArgs false
attribute [local go_sem] Oper.semAt_some
/-- parts as cells, one behind the other -/
def fl (l : List (Int × ByteArray)) : List Value := l.flatMap fun x => [.int .i64 x.1, .string x.2]
theorem fl_append (a b : List (Int × ByteArray)) : fl (a ++ b) = fl a ++ fl b := by simp [fl]
theorem fl_length (l : List (Int × ByteArray)) : (fl l).length = l.length * 2 := by
  induction l with
  | nil => rfl
  | cons x t ih => simp [fl] at ih ⊢; omega
theorem cell_two_new (w : World) (x y : Value) (t : TypeId) : ∀ j u, [x, y][j]? = some u → (w.alloc (.cells #[x, y] t)).cell? ((⟨w.heap.size, 0, none⟩ : Addr).add j) = some u := fun j u hj => by
  have h := (Own.new w t #[x, y]).cell j
  rw [List.getElem?_toArray, hj] at h
  match j, h with
  | 0, h => exact h
  | 1, h => exact h
  | j + 2, _ => simp at hj
theorem info29 : (Try.prog.info? 29).map (fun i => (i.zero, i.size, i.bytes)) = some (some (.agg #[.int .i64 0, .string ⟨#[]⟩]), 2, 24) := by kernel_rfl
theorem own_not_row {W : World} {B : Nat} {t e : TypeId} {c : Array Value} (h : Own W B t c) (hte : t ≠ e) {base size k : Nat} {v : Value} {xs : List Value} (hr : W.ownsRow base e size v k xs) : some B ≠ v.ownBlock := by
  rcases hr.2 with ⟨rfl, _⟩ | ⟨g, cap, cur, rfl, _, hgb, _⟩
  · simp [Value.ownBlock]
  · intro e'
    obtain rfl : B = g := by simpa [Value.ownBlock] using e'
    have := (show W.heap[B]? = _ from h).symm.trans hgb
    simp at this
    exact hte this.2
theorem mk24 (w : World) : (Instr.makeSlice 24 (.int .i64 0) (.int .i64 5)).run Try.prog w = .ok (.slice (some ⟨w.heap.size, 0, none⟩) 0 5) (w.alloc (.cells (madeCells #[.int .i64 0, .string ⟨#[]⟩] 10) 29)) := by
  obtain ⟨i, hi, h1, h2, h3⟩ := info_parts info29
  have hr := run_make (P := Try.prog) w 24 29 i _ Try.underlying24 hi h1 .i64 .i64 0 5 (by omega) (by omega) (by rw [h3]; decide) (by omega)
  rw [hr, h2]; rfl
theorem rows3_own (Bn : Nat) (L : List Nat) : Go.Own (fun (_ : List (Int × ByteArray)) W => Rows3 W Bn L) := fun s A B row hs hg hr => by
  obtain ⟨R, S, T, o, h⟩ := hs
  exact ⟨R, S, T, (grownBy_keeps_cells hg hr o rfl).trans o, h⟩
set_option maxRecDepth 100000 in
set_option maxHeartbeats 4000000 in
theorem cut_in (n : Nat) (hn : 3 ≤ n) (D : ByteArray) (hD : D.size ≤ 1000000) (w : World) :
    CallsIn Fence.wide n Try.prog 11 #[.string D] w fun e W' => ∃ v, e = .returned v ∧ W'.ownsRow w.heap.size 29 2 v 5 (fl (five (toN D))) ∧ Below w.heap.size w W' := by
  have h1 : 1 ≤ n := by omega
  have hlen : (toN D).length ≤ 1000000 := by rw [toN_length]; exact hD
  obtain ⟨i0, hi, hz0, hz1, hz2⟩ := info_parts info29
  have mk := fun w => mk24 w
  refine callsIn_of_wp_marks Try.func11 rfl trivial ?_ rfl
  simp only [Try.ntmps11, List.size_toArray, List.length_cons, List.length_nil, Nat.reduceAdd, Nat.reduceSub, Array.replicate_succ, Array.replicate_zero, List.push_toArray, List.append_toArray, List.nil_append, List.cons_append]
  gi_wp2
  refine ⟨trivial, (callsIn_wide.2 (parts_any D hD _)).mono ?_⟩
  rintro e W0 ⟨Bn, rfl, hBn, hR, hb⟩
  have oG : (w.alloc (Obj.cells (madeCells #[.int .i64 0, .string ⟨#[]⟩] 10) 29)).ownsRow w.heap.size 29 2 (.slice (some ⟨w.heap.size, 0, none⟩) 0 5) 0 [] := World.ownsRow_made w _ 5 (Nat.le_refl _) (by decide) (by simp [madeCells])
  have hrow0 := oG.alloc (Obj.cells #[.slice (some ⟨w.heap.size, 0, none⟩) 0 5] 24)
  have bL0 := Boxed.new (w.alloc (Obj.cells (madeCells #[.int .i64 0, .string ⟨#[]⟩] 10) 29)) 24 (.slice (some ⟨w.heap.size, 0, none⟩) 0 5)
  have hB0 : Below w.heap.size w ((w.alloc (Obj.cells (madeCells #[.int .i64 0, .string ⟨#[]⟩] 10) 29)).alloc (Obj.cells #[.slice (some ⟨w.heap.size, 0, none⟩) 0 5] 24)) := ((Below.refl _ w).alloc (Nat.le_refl _) _).alloc (by simp) _
  have hsz : ((w.alloc (Obj.cells (madeCells #[.int .i64 0, .string ⟨#[]⟩] 10) 29)).alloc (Obj.cells #[.slice (some ⟨w.heap.size, 0, none⟩) 0 5] 24)).heap.size = w.heap.size + 2 := by simp
  rw [World.size_alloc] at bL0
  generalize (w.alloc (Obj.cells (madeCells #[.int .i64 0, .string ⟨#[]⟩] 10) 29)).alloc (Obj.cells #[.slice (some ⟨w.heap.size, 0, none⟩) 0 5] 24) = W1 at *
  have hbg : ∀ {row : Option Nat}, W1.grownBy W0 none := fun {_} => ⟨hb.os, hb.tape, hb.output, hb.size, fun k hk _ => hb.block k hk⟩
  have hrow1 := hrow0.kept (hbg (row := none)) (.inr (by simp [Value.ownBlock]))
  have bL1 := bL0.kept (hbg (row := none)) (by simp)
  have hB1 : Below w.heap.size w W0 := hB0.trans (hb.mono (by omega))
  have hs0 : w.heap.size + 2 ≤ W0.heap.size := by have := hb.size; omega
  have hRl := hR.lt
  have hmx : 10 ≤ maxLen := by decide
  have HBG := Lib.hid hb
  clear hbg hrow0 bL0 hB0 hb oG mk
  generalize hg : w.heap.size = g at *
  gi_wp2
  refine wpIn_rangeFunc_ownH (F := Fence.wide) (n := n) rfl h1 (gf := 28) (lb := #[.pointer (some ⟨Bn, 0, none⟩)]) rfl trivial (enters_of Try.func28 (by kernel_rfl) rfl)
    (iter_stops (n - 1) (by omega) Bn (toN D) hlen W0 hR) (fun h k => k.trans h)
    (fun W l o o' hl ho hc hw => World.putObj_heap_other (by omega)) (Below.refl _ _) (fun _ => rfl)
    (fun pre W => ((∃ v, Boxed W (g + 1) 24 v ∧ W.ownsRow g 29 2 v pre.length (fl pre) ∧ True) ∧ Rows3 W Bn (toN D)) ∧ Below g w W)
    (fun _ _ _ => False)
    (OwnFrom.and (OwnFrom.and (Go.Own.from (holdsRow_own g (g + 1) 24 29 2 (fun pre => pre.length) (fun pre => fl pre) (fun _ _ => True)) _) (Go.Own.from (rows3_own Bn (toN D)) _)) (ownFrom_below (by omega) (by omega)))
    (fun _ _ _ _ _ hs _ _ => hs)
    ⟨⟨⟨_, bL1, hrow1, trivial⟩, hR⟩, hB1⟩
    (fun x a' W => ∃ Bx, Own W Bx 29 #[.int .i64 x.1, .string x.2] ∧ a' = { tmps := #[.string D, undef, .slice none 0 0, .pointer (some ⟨g + 1, 0, none⟩), .pointer (some ⟨Bx, 0, none⟩), .slice (some ⟨g, 0, none⟩) 0 5, .string D, .func (.func 28) #[] #[.pointer (some ⟨Bn, 0, none⟩)], enc5 x, undef, undef, undef, undef, undef], defers := [] })
    (fun x a' _ X Y row hs hg hr => by obtain ⟨Bx, h1, h3⟩ := hs; exact ⟨Bx, (grownBy_keeps_cells hg (fun r e => (hr r e).2) h1 rfl).trans h1, h3⟩)
    ?assign ?body ?done ?stop
  case assign =>
    rintro l pre x W K ⟨⟨⟨v, hv, hrow, _⟩, hR1⟩, hB⟩ hK
    unfold enc5
    gi_wp2
    exact hK _ _ ((KeepsOthers.alloc _ _).from _) (Below.heap_alloc W _ Bn hR1.lt) ⟨⟨⟨v, hv.alloc _, hrow.alloc _, trivial⟩, hR1.below ((Below.refl _ W).alloc (Nat.le_refl _) _) hR1.lt⟩, hB.alloc (by have := hB.size; omega) _⟩ ⟨W.heap.size, Own.new _ _ _, rfl⟩
  case body =>
    rintro l pre x a' W hl ⟨r, hr⟩ ⟨⟨⟨v, hv, hrow, _⟩, hR1⟩, hB⟩ ⟨Bx, oX, rfl⟩ hlt
    have hc := hv.cell
    have d0 := oX.cell 0
    have d1 := oX.cell 1
    simp only [List.getElem?_toArray, List.getElem?_cons_zero, List.getElem?_cons_succ] at d0 d1
    gi_wp2_with (gi_at_builtin; refine wpListIn_append_own _ rfl _ _ 24 rfl g 29 i0 (.agg #[.int .i64 0, .string ⟨#[]⟩]) 2 24 Try.underlying24 hi hz0 hz1 hz2 rfl (by decide) _ _ _ rfl (hrow.alloc _) ⟨W.heap.size, 0, none⟩ 1 1 [.int .i64 x.1, .string x.2] rfl rfl (cell_two_new _ _ _ _) (by simp [Value.oneCell']) (by omega) (by omega) (by have := hB.size; simp; omega) ?_; intro v' w1 hown' hgrow _; obtain ⟨g', cap', rfl⟩ := ownsRow_succ hown'; obtain ⟨hv1, hv2, hr2, hk2, hb2⟩ := hv.appended (by decide) hrow (by have := hB.size; omega) (by omega) hown' hgrow; have hc1 := hv1.cell; have hf1 := hv1.frozen)
    have hRl1 := hR1.lt
    obtain ⟨R, S, T, oB, h3⟩ := hR1
    have hk : (w1.setCell ⟨g + 1, 0, none⟩ (.slice (some ⟨g', 0, none⟩) (pre.length + 1) cap')).heap[Bn]? = W.heap[Bn]? :=
      (Below.heap_setCell _ _ _ _ (by show Bn ≠ g + 1; omega)).trans ((hgrow.block Bn (by simp; omega) (own_not_row oB (by decide) hrow)).trans (Below.heap_alloc W _ Bn hRl1))
    exact ⟨hk2.from _, hk, ⟨⟨_, hv2, by simpa [fl] using hr2, trivial⟩, R, S, T, oB.kept hk, h3⟩, hB.trans hb2⟩
  case done =>
    rintro D' ys W hD' rfl ⟨⟨⟨v, hv, hrow, _⟩, hR1⟩, hB⟩ hK
    have hc := hv.cell
    gi_wp2
    refine ⟨by simp, .inl ⟨_, _, rfl, run_takeDeferred hK, ?_⟩⟩
    rw [five_length] at hrow
    rw [hg]
    exact ⟨_, results_tmp rfl _ _ _, v, rfl, ownsRow_putObj hrow _ hK rfl, hB.trans (belowK_b (w := W0) (by omega) W D' _ _ hD' hK rfl rfl)⟩
  case stop =>
    rintro D' c pre W _ _ h _
    exact h.elim
end Go.Proofs.Ytgfnpemonpebpaa
