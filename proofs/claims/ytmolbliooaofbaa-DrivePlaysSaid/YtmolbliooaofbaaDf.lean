/-
  THE WALKS of Flush: the code's, the document's.
-/
import Derived.Test.YtmolbliooaofbaaDe
namespace Go.Proofs.Ytmolbliooaofbaa
set_option linter.unusedVariables false
set_option maxRecDepth 100000
set_option linter.unusedSimpArgs false
open Go.RowKit
namespace Dw
open _root_.Go.Proofs.Ytmolbliooaofbaa.Nm
open Dm (Wr wnth)
theorem flush_step {B : List ByteArray} {P : List Wr} {q : Nat} (h : q < P.length) : Dm.flushM B (P.take (q + 1)) = Dm.setI (Dm.flushM B (P.take q)) (wnth P q).1 (wnth P q).2 := by
  rw [Dm.take_wnth h]
  unfold Dm.flushM
  rw [List.foldl_append]; rfl
/-- every write's block is there -/
def In (d : Dm.Dr) : Prop := ∀ w ∈ d.P, 0 ≤ w.1 ∧ w.1 < (d.B.length : Int)
theorem In.of {d : Dm.Dr} (h : Dm.Ok d) : In d := fun w hw => (h.p w hw).1
/-- a drive's box, an answer's, and the box of what becomes the answer -/
structure B3 (w : World) (cs ds es : Array Value) (G : Nat) (wr : World) : Prop where
  t : B2 w cs ds wr
  g : Nm.Own wr G 25 es
  l : w.heap.size + 2 ≤ G
theorem B3.below {w wr w1 : World} {cs ds es : Array Value} {G : Nat} (h : B3 w cs ds es G wr) (hx : Below wr.heap.size wr w1) : B3 w cs ds es G w1 := ⟨h.t.below hx, h.g.below hx, h.l⟩
theorem B3.st {w wr w1 : World} {cs ds es : Array Value} {G k : Nat} (h : B3 w cs ds es G wr) (hs : St k wr w1) (h1 : w.heap.size + 2 ≤ k) (h2 : k ≠ G) : B3 w cs ds es G w1 :=
  ⟨⟨hs.own h.t.o (by omega), hs.own h.t.q (by omega), hs.below h.t.b (by omega)⟩, hs.own h.g (fun e => h2 e.symm), h.l⟩
set_option maxHeartbeats 2000000 in
theorem flush_any (A : Option Addr) (n c : Nat) (A' : Option Addr) (m c' : Nat) (d : Dm.Dr) (w : World) (h : Dz w A n c A' m c' d) (hin : In d) :
    Calls Try.prog 18 #[.agg (dv A n c A' m c' d.left)] w fun e w' => AnsIs (Dm.flushA d) e w' ∧ Below w.heap.size w w' := by
  have ob := B2.new w (dv A n c A' m c' d.left) (dv none 0 0 none 0 0 0)
  have H0 := Lib.hid h
  have HI := Lib.hid hin
  have hn : d.B.length = n := h.b.t.1
  have hnm := h.b.m
  have hpn : d.P.length = m := h.p.len
  have hpm := h.p.m
  have hhas := fun i w => has_any A n c A' m c' d.left i w
  have hfr := fun wr (hh : Dz wr A n c A' m c' d) => fresh_any A n c A' m c' d wr hh
  have hone := fun wr => one_any d.left wr h.l.1 h.l.2
  have hls := Dm.less_in h.l
  have hB0 := ob.b
  have sz1 : ((w.alloc (Obj.cells (dv A n c A' m c' d.left) 25)).alloc (Obj.cells (dv none 0 0 none 0 0 0) 25)).heap.size = w.heap.size + 2 := by simp
  unfold Dm.flushA
  by_cases hl : d.left = 0
  · rw [if_pos hl]
    have h1 := h.below hB0
    rw [hl] at hfr ob ⊢
    rw [hl] at h1 sz1
    clear hone hhas h hB0
    go_enter Try.func18, Try.ntmps18
    go_wp2_with fail
    refine (hfr _ h1).mono ?_
    rintro e w2 ⟨⟨A1, c1, A2, c2, rfl, hr, hp⟩, hx2⟩
    rw [sz1] at hr hp
    have ob2 := (ob.below hx2).below (grow w2 (Obj.cells (dv A1 n c1 A2 m c2 0) 25))
    have o3 := Nm.Own.new w2 25 (dv A1 n c1 A2 m c2 0)
    have hr2 := hr.below (grow w2 (Obj.cells (dv A1 n c1 A2 m c2 0) 25))
    have hp2 := hp.below (grow w2 (Obj.cells (dv A1 n c1 A2 m c2 0) 25))
    have d2 := ob2.o.cell 2
    simp only [List.getElem?_toArray, List.getElem?_cons_zero, List.getElem?_cons_succ] at d2
    clear ob h1 hfr sz1
    go_wp2_with (first | (refine ld25 rfl rfl rfl o3 ?_) | (refine sto25 rfl rfl rfl rfl ob2.q rfl ?_))
    intro w4 q4 s4
    have ob4 := ob2.set q4 s4
    go_wp2_with fail
    refine res25e rfl rfl rfl q4 rfl ⟨⟨A1, n, c1, A2, m, c2, by show _ = Ending.returned (.tuple #[.agg (dv A1 n c1 A2 m c2 d.left), .int .i64 17]); rw [hl]; rfl, ⟨Tz.of (s4.rs hr2 (by omega)) H0.out.b.m, (s4.rp hp2 (by omega)).pz H0.out.p.m, H0.out.l⟩⟩, ob4.b⟩
  · rw [if_neg hl]
    have h1 := h.below hB0
    have HF := Lib.hid (show Dm.flushed d = ⟨Dm.flushM d.B d.P, [], Dm.less d.left⟩ from rfl)
    generalize hL : d.left = L at *
    clear h hB0 hin
    have hl0 : (L == 0) = false := by simp [hl]
    go_enter Try.func18, Try.ntmps18
    go_wp2_with fail
    refine (hfr _ h1).mono ?_
    rintro e w2 ⟨⟨A1, c1, A2, c2, rfl, hr, hp⟩, hx2⟩
    rw [sz1] at hr hp
    have ob2 := (ob.below hx2).below (grow w2 (Obj.cells (dv A1 n c1 A2 m c2 L) 25))
    have o3 := Nm.Own.new w2 25 (dv A1 n c1 A2 m c2 L)
    have hr2 := hr.below (grow w2 (Obj.cells (dv A1 n c1 A2 m c2 L) 25))
    have ob3 : B3 w (dv A n c A' m c' L) (dv none 0 0 none 0 0 0) (dv A1 n c1 A2 m c2 L) w2.heap.size (w2.alloc (Obj.cells (dv A1 n c1 A2 m c2 L) 25)) := ⟨ob2, o3, by have := hx2.size; omega⟩
    have d1 := ob2.o.cell 1
    have d2 := ob2.o.cell 2
    simp only [List.getElem?_toArray, List.getElem?_cons_zero, List.getElem?_cons_succ] at d1 d2
    clear ob h1 hfr sz1 ob2 o3 hr hp
    go_wp2_with fail
    clear d1 d2
    go_loopw [6, 16] (fun _ i wr => ∃ q : Nat, q ≤ m ∧ i = .int .i64 q ∧ B3 w (dv A n c A' m c' L) (dv none 0 0 none 0 0 0) (dv A1 n c1 A2 m c2 L) w2.heap.size wr ∧ RS wr (w.heap.size + 2) A1 n c1 (Dm.flushM d.B (d.P.take q))) (fun _ i _ => m - (intOf i).toNat)
    case atStart => exact ⟨0, Nat.zero_le _, rfl, ob3, hr2⟩
    case round =>
      obtain ⟨q, hq, rfl, ob4, hr4⟩ := hrel
      by_cases hlq : q < m
      · obtain ⟨b', off', rfl, hc⟩ := (H0.out.p.below ob4.t.b).c (by omega)
        obtain ⟨c1', c2'⟩ := hc q (by omega)
        have hlq' : (q : Int) < (m : Int) := by omega
        have HT := Lib.hid (flush_step (B := d.B) (P := d.P) (q := q) (by omega))
        have hi := HI.out (wnth d.P q) (Dm.wnth_mem (by omega))
        have gb := grow wr (Obj.cells #[.int .i64 (wnth d.P q).1, .string (wnth d.P q).2] 47)
        have ob5 := ob4.below gb
        have hr5 := hr4.below gb
        have o47 := Nm.Own.new wr 47 #[.int .i64 (wnth d.P q).1, .string (wnth d.P q).2]
        have hl5 := hr4.1
        clear hc ob4 hr4 gb ob3 hr2
        generalize wnth d.P q = x at *
        obtain ⟨xi, xs⟩ := x
        dsimp only at *
        obtain ⟨k, rfl⟩ := Int.eq_ofNat_of_zero_le hi.1
        have hhas' := fun wr => hhas (k : Int) wr
        rw [decide_eq_true (show 0 ≤ (k : Int) ∧ (k : Int) < (n : Int) from by rw [← hn]; exact hi)] at hhas'
        have hk : k < n := by omega
        have hk' : (k : Int) < (n : Int) := by omega
        clear hi
        go_wp2_with (refine ld25 rfl rfl rfl ob5.t.o ?_)
        refine (hhas' _).mono ?_
        rintro e w6 ⟨rfl, hx6⟩
        have ob6 := ob5.below hx6
        have hr6 := hr5.below hx6
        have o48 := o47.below hx6
        have e0 := o48.cell 0
        have e1 := o48.cell 1
        have g0 := ob6.g.cell 0
        simp only [List.getElem?_toArray, List.getElem?_cons_zero, List.getElem?_cons_succ] at e0 e1 g0
        clear ob5 hr5 o47 hhas' hx6 o48
        obtain ⟨g, rfl, hg1, hg2⟩ : ∃ g, A1 = some ⟨g, 0, none⟩ ∧ w.heap.size + 2 ≤ g ∧ g < w6.heap.size := by
          rcases hr6.form with ⟨_, h0, _⟩ | h0
          · omega
          · exact h0
        have cc := RS.cell hr6 hk
        have cf := RS.frozen hr6 k
        have s7 := St.cellOf w6 g k (.string xs)
        have hr7 := RS.put hr6 k xs
        have ob7 := ob6.st s7 hg1 (fun e => RS.ne hr6 ob6.g (by decide) (by rw [← e]; rfl))
        clear ob6 hr6
        generalize nth (Dm.flushM d.B (d.P.take q)) k = old at *
        go_wp2_with fail
        go_roundw
        case rel => exact ⟨q + 1, by omega, by go_num, ob7, by rw [HT.out]; exact hr7⟩
        case measure => simp [intOf]; omega
      · obtain rfl : q = m := by omega
        have hz : d.P.take q = d.P := List.take_of_length_le (by omega)
        rw [hz] at hr4
        have l1 := ob4.l
        have g1 := ob4.g.cell 1
        have gf1 := ob4.g.frozen 1
        simp only [List.getElem?_toArray, List.getElem?_cons_zero, List.getElem?_cons_succ] at g1
        have s5 := St.cellOf wr w2.heap.size 1 (.slice none 0 0)
        have o5 : Nm.Own (wr.setCell ⟨w2.heap.size, 1, none⟩ (.slice none 0 0)) w2.heap.size 25 (dv A1 n c1 none 0 0 L) := ob4.g.set 1 _
        have ob5 : B2 w (dv A n c A' q c' L) (dv none 0 0 none 0 0 0) (wr.setCell ⟨w2.heap.size, 1, none⟩ (.slice none 0 0)) := ⟨s5.own ob4.t.o (by omega), s5.own ob4.t.q (by omega), s5.below ob4.t.b (by omega)⟩
        have hr5 := s5.rsn hr4 (RS.ne hr4 ob4.g (by decide))
        have d2 := ob5.o.cell 2
        have x2 := o5.cell 2
        have y2 := o5.frozen 2
        simp only [List.getElem?_toArray, List.getElem?_cons_zero, List.getElem?_cons_succ] at d2 x2
        have s7 := St.cellOf (wr.setCell ⟨w2.heap.size, 1, none⟩ (.slice none 0 0)) w2.heap.size 2 (.int .i64 (Dm.less L))
        have o7 : Nm.Own ((wr.setCell ⟨w2.heap.size, 1, none⟩ (.slice none 0 0)).setCell ⟨w2.heap.size, 2, none⟩ (.int .i64 (Dm.less L))) w2.heap.size 25 (dv A1 n c1 none 0 0 (Dm.less L)) := o5.set 2 _
        have ob7 : B2 w (dv A n c A' q c' L) (dv none 0 0 none 0 0 0) ((wr.setCell ⟨w2.heap.size, 1, none⟩ (.slice none 0 0)).setCell ⟨w2.heap.size, 2, none⟩ (.int .i64 (Dm.less L))) := ⟨s7.own ob5.o (by omega), s7.own ob5.q (by omega), s7.below ob5.b (by omega)⟩
        have hr7 := s7.rsn hr5 (RS.ne hr5 o5 (by decide))
        clear ob3 ob4 hr4 hr2 s5 o5 ob5 hr5 s7 hz hL
        go_wp2_with fail
        refine (hone _).mono ?_
        rintro e w8 ⟨rfl, rfl⟩
        go_wp2_with (first | (refine ld25 rfl rfl rfl o7 ?_) | (refine sto25 rfl rfl rfl rfl ob7.q rfl ?_))
        intro w9 q9 s9
        have ob9 := ob7.set q9 s9
        go_wp2_with fail
        refine res25e rfl rfl rfl q9 rfl ⟨by rw [HF.out]; exact ⟨A1, n, c1, none, 0, 0, rfl, ⟨Tz.of (s9.rs hr7 (by omega)) hnm, Pz.nil _, hls⟩⟩, ob9.b⟩
theorem flush_take {d : Dm.Dr} {k : Nat} (h : In d) (hk : k < d.B.length) : (Dm.flushM d.B d.P).take (k + 1) = (Dm.flushM d.B d.P).take k ++ [Dm.getM d.B d.P k] := by
  have hl : k < (Dm.flushM d.B d.P).length := by rw [Dm.flush_length]; exact hk
  rw [List.take_add_one, List.getElem?_eq_getElem hl, ← Dm.flush_get d.P d.B k h, ← nth_eq hl]
  rfl
set_option maxHeartbeats 2000000 in
theorem rflush_any (A : Option Addr) (n c : Nat) (A' : Option Addr) (m c' : Nat) (d : Dm.Dr) (w : World) (h : Dz w A n c A' m c' d) (hin : In d) :
    Calls Try.prog 19 #[.agg (dv A n c A' m c' d.left)] w fun e w' => AnsIs (Dm.flushA d) e w' ∧ Below w.heap.size w w' := by
  have ob := B2.new w (dv A n c A' m c' d.left) (dv none 0 0 none 0 0 0)
  have H0 := Lib.hid h
  have HI := Lib.hid hin
  have hn : d.B.length = n := h.b.t.1
  have hnm := h.b.m
  have hget := fun (i : Int) wr (hh : Dz wr A n c A' m c' d) => rget_any A n c A' m c' d i wr hh
  have hless := fun (v : Option Addr × Nat × Nat) (u : Option Addr × Nat × Nat) wr => less_any v.1 v.2.1 v.2.2 u.1 u.2.1 u.2.2 d.left wr h.l.1 h.l.2
  have hls := Dm.less_in h.l
  have sz1 : ((w.alloc (Obj.cells (dv A n c A' m c' d.left) 25)).alloc (Obj.cells (dv none 0 0 none 0 0 0) 25)).heap.size = w.heap.size + 2 := by simp
  unfold Dm.flushA
  by_cases hl : d.left = 0
  · rw [if_pos hl]
    rw [hl] at ob ⊢
    clear hget hless h
    have d2 := ob.o.cell 2
    simp only [List.getElem?_toArray, List.getElem?_cons_zero, List.getElem?_cons_succ] at d2
    go_enter Try.func19, Try.ntmps19
    go_wp2_with (first | (refine ld25 rfl rfl rfl ob.o ?_) | (refine sto25 rfl rfl rfl rfl ob.q rfl ?_))
    intro w4 q4 s4
    have ob4 := ob.set q4 s4
    go_wp2_with fail
    refine res25e rfl rfl rfl q4 rfl ⟨⟨A, n, c, A', m, c', by show _ = Ending.returned (.tuple #[.agg (dv A n c A' m c' d.left), .int .i64 17]); rw [hl]; rfl, H0.out.below ob4.b⟩, ob4.b⟩
  · rw [if_neg hl]
    have HF := Lib.hid (show Dm.flushed d = ⟨Dm.flushM d.B d.P, [], Dm.less d.left⟩ from rfl)
    generalize hL : d.left = L at *
    have hl0 : (L == 0) = false := by simp [hl]
    have d2 := ob.o.cell 2
    simp only [List.getElem?_toArray, List.getElem?_cons_zero, List.getElem?_cons_succ] at d2
    have gb := grow ((w.alloc (Obj.cells (dv A n c A' m c' L) 25)).alloc (Obj.cells (dv none 0 0 none 0 0 0) 25)) (Obj.cells #[] 9)
    have ob1 := ob.below gb
    have r0 : RS (((w.alloc (Obj.cells (dv A n c A' m c' L) 25)).alloc (Obj.cells (dv none 0 0 none 0 0 0) 25)).alloc (Obj.cells #[] 9)) (w.heap.size + 2) (some ⟨w.heap.size + 1 + 1, 0, none⟩) 0 0 [] := RS.empty (by rw [show w.heap.size + 1 + 1 = w.heap.size + 2 from rfl, ← sz1]; exact Nm.Own.new _ 9 #[]) (Nat.le_refl _)
    clear h gb hin ob sz1 hL
    go_enter Try.func19, Try.ntmps19
    go_wp2_with fail
    clear d2
    go_loopw [4, 5, 6, 7] (fun s i _ _ wr => ∃ (k : Nat) (R : Option Addr) (cap : Nat), k ≤ n ∧ i = .int .i64 k ∧ s = .slice R k cap ∧ B2 w (dv A n c A' m c' L) (dv none 0 0 none 0 0 0) wr ∧ RS wr (w.heap.size + 2) R k cap ((Dm.flushM d.B d.P).take k)) (fun _ i _ _ _ => n - (intOf i).toNat)
    case atStart => exact ⟨0, _, 0, Nat.zero_le _, rfl, rfl, ob1, r0⟩
    case round =>
      obtain ⟨k, R, cap, hk, rfl, rfl, ob2, hr2⟩ := hrel
      have d0 := ob2.o.cell 0
      have l2 := ob2.lt
      simp only [List.getElem?_toArray, List.getElem?_cons_zero, List.getElem?_cons_succ] at d0
      by_cases hlt : k < n
      · have hlt' : (k : Int) < (n : Int) := by omega
        have hz := H0.out.below ob2.b
        have HT := Lib.hid (flush_take (d := d) (k := k) HI.out (by omega))
        clear ob1 r0
        go_wp2_with (refine ld25 rfl rfl rfl ob2.o ?_)
        refine (hget (k : Int) _ hz).mono ?_
        unfold GetIs
        rw [if_pos (by omega)]
        rintro e w3 ⟨rfl, hx3⟩
        rw [Int.toNat_natCast]
        have ob3 := ob2.below hx3
        have hr3 := hr2.below hx3
        have y := Nm.Own.new w3 9 #[.string (Dm.getM d.B d.P k)]
        have y0 := y.cell 0
        simp only [List.getElem?_toArray, List.getElem?_cons_zero] at y0
        have gb := grow w3 (Obj.cells #[.string (Dm.getM d.B d.P k)] 9)
        have ob4 := ob3.below gb
        have hr4 := hr3.below gb
        have l4 := ob4.lt
        clear ob2 hr2 hz ob3 hr3 gb y d0
        generalize Dm.getM d.B d.P k = T at *
        go_wp2_with (at_builtin; refine app_text rfl _ _ rfl (w.heap.size + 2) _ _ _ _ rfl hr4 _ T _ rfl y0 (by omega) (by omega) _ rfl ?_)
        intro G cap' w5 hr5 _ _ hb5
        have ob5 := ob4.low hb5
        go_wp2_with fail
        go_roundw
        case rel => exact ⟨k + 1, some ⟨G, 0, none⟩, cap', by omega, by go_num, rfl, ob5, by rw [HT.out]; exact hr5⟩
        case measure => simp [intOf]; omega
      · obtain rfl : k = n := by omega
        have hz : (Dm.flushM d.B d.P).take k = Dm.flushM d.B d.P := List.take_of_length_le (by rw [Dm.flush_length]; omega)
        rw [hz] at hr2
        clear hz ob1 r0
        have gb := grow wr (Obj.cells #[] 47)
        have ob3 := ob2.below gb
        have hr3 := hr2.below gb
        have d0' := ob3.o.cell 0
        have f0' := ob3.o.frozen 0
        simp only [List.getElem?_toArray, List.getElem?_cons_zero, List.getElem?_cons_succ] at d0'
        have s4 := St.cellOf (wr.alloc (Obj.cells #[] 47)) w.heap.size 0 (.slice R k cap)
        have o4 : Nm.Own ((wr.alloc (Obj.cells #[] 47)).setCell ⟨w.heap.size, 0, none⟩ (.slice R k cap)) w.heap.size 25 (dv R k cap A' m c' L) := ob3.o.set 0 _
        have q4 := s4.own ob3.q (by omega)
        have hr4 := s4.rs hr3 (by omega)
        have hb4 := s4.below ob3.b (Nat.le_refl _)
        have d1 := o4.cell 1
        have f1 := o4.frozen 1
        simp only [List.getElem?_toArray, List.getElem?_cons_zero, List.getElem?_cons_succ] at d1
        have s5 := St.cellOf ((wr.alloc (Obj.cells #[] 47)).setCell ⟨w.heap.size, 0, none⟩ (.slice R k cap)) w.heap.size 1 (.slice (some ⟨wr.heap.size, 0, none⟩) 0 0)
        have o5 : Nm.Own (((wr.alloc (Obj.cells #[] 47)).setCell ⟨w.heap.size, 0, none⟩ (.slice R k cap)).setCell ⟨w.heap.size, 1, none⟩ (.slice (some ⟨wr.heap.size, 0, none⟩) 0 0)) w.heap.size 25 (dv R k cap (some ⟨wr.heap.size, 0, none⟩) 0 0 L) := o4.set 1 _
        have ob5 : B2 w (dv R k cap (some ⟨wr.heap.size, 0, none⟩) 0 0 L) (dv none 0 0 none 0 0 0) (((wr.alloc (Obj.cells #[] 47)).setCell ⟨w.heap.size, 0, none⟩ (.slice R k cap)).setCell ⟨w.heap.size, 1, none⟩ (.slice (some ⟨wr.heap.size, 0, none⟩) 0 0)) := ⟨o5, s5.own q4 (by omega), s5.below hb4 (Nat.le_refl _)⟩
        have hr5 := s5.rs hr4 (by omega)
        have hless' := fun wr' => hless (R, k, cap) (some ⟨wr.heap.size, 0, none⟩, 0, 0) wr'
        clear hget ob2 hr2 gb ob3 hr3 s4 o4 q4 hr4 hb4 s5 o5 hless
        go_wp2_with (refine ld25 rfl rfl rfl ob5.o ?_)
        refine (hless' _).mono ?_
        rintro e w6 ⟨rfl, hx6⟩
        have ob6 := ob5.below hx6
        have hr6 := hr5.below hx6
        clear ob5 hr5 hless'
        go_wp2_with (refine sto25 rfl rfl rfl rfl ob6.q rfl ?_)
        intro w9 q9 s9
        have ob9 := ob6.set q9 s9
        go_wp2_with fail
        refine res25e rfl rfl rfl q9 rfl ⟨by rw [HF.out]; exact ⟨R, k, cap, some ⟨wr.heap.size, 0, none⟩, 0, 0, rfl, ⟨Tz.of (s9.rs hr6 (by omega)) hnm, ⟨rfl, (fun h => absurd h (by decide)), (fun h => by cases h), by decide⟩, hls⟩⟩, ob9.b⟩
end Dw
end Go.Proofs.Ytmolbliooaofbaa
