/-
  THE WALKS of Put: the code's, the document's.
-/
import Derived.Test.YtmolbliooaofbaaDd
namespace Go.Proofs.Ytmolbliooaofbaa
set_option linter.unusedVariables false
set_option maxRecDepth 100000
set_option linter.unusedSimpArgs false
open Go.RowKit
namespace Dm
def putM (d : Dr) (i : Int) (t : ByteArray) : Dr × Int := if 0 ≤ i ∧ i < (d.B.length : Int) then (if t.size = 128 then (if d.left = 0 then (d, 17) else (putted d i t, 0)) else (zero, 3)) else (zero, 2)
def flushA (d : Dr) : Dr × Int := if d.left = 0 then (d, 17) else (flushed d, 0)
theorem less_in {l : Int} (h : -9223372036854775808 ≤ l ∧ l ≤ 9223372036854775807) : -9223372036854775808 ≤ less l ∧ less l ≤ 9223372036854775807 := by
  unfold less; split <;> omega
end Dm
namespace Dw
open _root_.Go.Proofs.Ytmolbliooaofbaa.Nm
open Dm (Wr wnth)
theorem ownBlock_some {A : Option Addr} {n cap k : Nat} (h : (Value.slice A n cap).ownBlock = some k) : ∃ o s, A = some ⟨k, o, s⟩ := by
  cases A with
  | none => simp [Value.ownBlock] at h
  | some a =>
    obtain ⟨b, o, s⟩ := a
    simp [Value.ownBlock] at h
    exact ⟨o, s, by rw [h]⟩
theorem RP.ne {w : World} {B n cap k : Nat} {A : Option Addr} {l : List Wr} {t : TypeId} {cs : Array Value} (hr : RP w B A n cap l) (ho : Nm.Own w k t cs) (ht : t ≠ 47) : some k ≠ (Value.slice A n cap).ownBlock := fun e => by
  obtain ⟨o, s, rfl⟩ := ownBlock_some e.symm
  rcases hr.2.2 with ⟨e', _⟩ | ⟨g', c, cur, e', _, hg, _⟩
  · cases e'
  · cases e'
    unfold Nm.Own at ho
    rw [hg] at ho
    cases ho
    exact ht rfl
theorem RS.neP {w : World} {B B' n cap n' cap' : Nat} {A A' : Option Addr} {l : List Wr} {l' : List ByteArray} (hr : RP w B A n cap l) (hs : RS w B' A' n' cap' l') : ∀ g, A' = some ⟨g, 0, none⟩ → some g ≠ (Value.slice A n cap).ownBlock := fun g e => by
  subst e
  rcases hs.2.2 with ⟨e', _⟩ | ⟨g', c, cur, e', _, hg, _⟩
  · cases e'
  · cases e'
    exact hr.ne (k := g) (t := 9) hg (by decide)
theorem RS.ne {w : World} {B n cap k : Nat} {A : Option Addr} {l : List ByteArray} {t : TypeId} {cs : Array Value} (hr : RS w B A n cap l) (ho : Nm.Own w k t cs) (ht : t ≠ 9) : some k ≠ (Value.slice A n cap).ownBlock := fun e => by
  obtain ⟨o, s, rfl⟩ := ownBlock_some e.symm
  rcases hr.2.2 with ⟨e', _⟩ | ⟨g', c, cur, e', _, hg, _⟩
  · cases e'
  · cases e'
    unfold Nm.Own at ho
    rw [hg] at ho
    cases ho
    exact ht rfl
theorem St.rsn {k B n cap : Nat} {A : Option Addr} {w w' : World} {l : List ByteArray} (h : St k w w') (hr : RS w B A n cap l) (hne : some k ≠ (Value.slice A n cap).ownBlock) : RS w' B A n cap l := by
  refine ⟨hr.1, hr.2.1, ?_⟩
  rcases hr.2.2 with h1 | ⟨g', c, cur, h1, h2, h3, h4⟩
  · exact .inl h1
  · exact .inr ⟨g', c, cur, h1, h2, (h.block g' (fun e => hne (by subst e; rw [h1]; rfl))).trans h3, h4⟩
theorem St.rpn {k B n cap : Nat} {A : Option Addr} {w w' : World} {l : List Wr} (h : St k w w') (hr : RP w B A n cap l) (hne : some k ≠ (Value.slice A n cap).ownBlock) : RP w' B A n cap l := by
  refine ⟨hr.1, hr.2.1, ?_⟩
  rcases hr.2.2 with h1 | ⟨g', c, cur, h1, h2, h3, h4⟩
  · exact .inl h1
  · exact .inr ⟨g', c, cur, h1, h2, (h.block g' (fun e => hne (by subst e; rw [h1]; rfl))).trans h3, h4⟩
/-- an answer: a drive, and how it came out -/
def AnsIs (x : Dm.Dr × Int) (e : Ending) (w' : World) : Prop :=
  ∃ A n c A' m c', e = .returned (.tuple #[.agg (dv A n c A' m c' x.1.left), .int .i64 x.2]) ∧ Dz w' A n c A' m c' x.1
theorem AnsIs.zero (w : World) (k : Int) : AnsIs (Dm.zero, k) (.returned (.tuple #[.agg (dv none 0 0 none 0 0 0), .int .i64 k])) w := ⟨none, 0, 0, none, 0, 0, rfl, Dz.zero w⟩
theorem B2.low {w wr w1 : World} {cs ds : Array Value} (h : B2 w cs ds wr) (hx : Below (w.heap.size + 2) wr w1) : B2 w cs ds w1 := ⟨(hx.block _ (by omega)).trans h.o, (hx.block _ (by omega)).trans h.q, h.b.trans (hx.mono (by omega))⟩
theorem B2.set {w wr w' : World} {cs ds es : Array Value} (h : B2 w cs ds wr) (hq : Nm.Own w' (w.heap.size + 1) 25 es) (hs : St (w.heap.size + 1) wr w') : B2 w cs es w' :=
  ⟨hs.own h.o (by omega), hq, hs.below h.b (by omega)⟩
set_option maxHeartbeats 1000000 in
theorem put_any (A : Option Addr) (n c : Nat) (A' : Option Addr) (m c' : Nat) (d : Dm.Dr) (i : Int) (t : ByteArray) (w : World) (h : Dz w A n c A' m c' d) (hm : m ≤ 90000) :
    Calls Try.prog 16 #[.agg (dv A n c A' m c' d.left), .int .i64 i, .string t] w fun e w' => AnsIs (Dm.putM d i t) e w' ∧ Below w.heap.size w w' := by
  have ob := B2.new w (dv A n c A' m c' d.left) (dv none 0 0 none 0 0 0)
  have H0 := Lib.hid h
  have hn : d.B.length = n := h.b.t.1
  have hhas := fun w => has_any A n c A' m c' d.left i w
  have hfr := fun wr (hh : Dz wr A n c A' m c' d) => fresh_any A n c A' m c' d wr hh
  have hone := fun wr => one_any d.left wr h.l.1 h.l.2
  unfold Dm.putM
  rw [hn]
  by_cases hi : 0 ≤ i ∧ i < (n : Int)
  · rw [decide_eq_true hi] at hhas
    rw [if_pos hi]
    by_cases ht : t.size = 128
    · rw [if_pos ht]
      have ht' : (t.size : Int) = 128 := by omega
      by_cases hl : d.left = 0
      · rw [if_pos hl]
        rw [hl] at hfr hhas ob ⊢
        clear hone
        go_enter Try.func16, Try.ntmps16
        go_wp2_with fail
        refine (hhas _).mono ?_
        rintro e w1 ⟨rfl, hx1⟩
        have ob1 := ob.below hx1
        have h1 := H0.out.below ob1.b
        clear ob hhas h
        go_wp2_with (refine ld25 rfl rfl rfl ob1.o ?_)
        refine (hfr _ h1).mono ?_
        rintro e w2 ⟨⟨A1, c1, A2, c2, rfl, hr, hp⟩, hx2⟩
        have hl1 := ob1.lt
        have ob2 := (ob1.below hx2).below (grow w2 (Obj.cells (dv A1 n c1 A2 m c2 0) 25))
        have o3 := Nm.Own.new w2 25 (dv A1 n c1 A2 m c2 0)
        have hr2 := hr.below (grow w2 (Obj.cells (dv A1 n c1 A2 m c2 0) 25))
        have hp2 := hp.below (grow w2 (Obj.cells (dv A1 n c1 A2 m c2 0) 25))
        have d2 := ob2.o.cell 2
        simp only [List.getElem?_toArray, List.getElem?_cons_zero, List.getElem?_cons_succ] at d2
        clear ob1 h1 hfr
        go_wp2_with (first | (refine ld25 rfl rfl rfl o3 ?_) | (refine sto25 rfl rfl rfl rfl ob2.q rfl ?_))
        intro w4 q4 s4
        have ob4 := ob2.set q4 s4
        go_wp2_with fail
        have e1 : w.heap.size + 1 < w1.heap.size := by omega
        refine res25e rfl rfl rfl q4 rfl ⟨⟨A1, n, c1, A2, m, c2, by show _ = Ending.returned (.tuple #[.agg (dv A1 n c1 A2 m c2 d.left), .int .i64 17]); rw [hl]; rfl, ⟨Tz.of (s4.rs hr2 e1) H0.out.b.m, (s4.rp hp2 e1).pz H0.out.p.m, H0.out.l⟩⟩, ob4.b⟩
      · rw [if_neg hl]
        have hless := Dm.less_in h.l
        unfold Dm.putted
        generalize hL : d.left = L at *
        go_enter Try.func16, Try.ntmps16
        go_wp2_with fail
        refine (hhas _).mono ?_
        rintro e w1 ⟨rfl, hx1⟩
        have ob1 := ob.below hx1
        have h1 := H0.out.below ob1.b
        clear ob hhas h
        go_wp2_with (refine ld25 rfl rfl rfl ob1.o ?_)
        refine (hfr _ h1).mono ?_
        rintro e w2 ⟨⟨A1, c1, A2, c2, rfl, hr, hp⟩, hx2⟩
        have hl1 := ob1.lt
        have z1 := hx2.size
        have ob2 := (ob1.below hx2).below (grow w2 (Obj.cells (dv A1 n c1 A2 m c2 L) 25))
        have o3 := Nm.Own.new w2 25 (dv A1 n c1 A2 m c2 L)
        have hr2 := hr.below (grow w2 (Obj.cells (dv A1 n c1 A2 m c2 L) 25))
        have hp2 := hp.below (grow w2 (Obj.cells (dv A1 n c1 A2 m c2 L) 25))
        have d2 := ob2.o.cell 2
        simp only [List.getElem?_toArray, List.getElem?_cons_zero, List.getElem?_cons_succ] at d2
        clear ob1 h1 hfr hx1 hx2 hr hp
        have sz3 : (w2.alloc (Obj.cells (dv A1 n c1 A2 m c2 L) 25)).heap.size = w2.heap.size + 1 := by simp
        have y := Nm.Own.new (w2.alloc (Obj.cells (dv A1 n c1 A2 m c2 L) 25)) 47 #[.int .i64 i, .string t]
        have y0 := y.cell 0
        have y1 := y.cell 1
        rw [sz3] at y0 y1
        simp only [List.getElem?_toArray, List.getElem?_cons_zero, List.getElem?_cons_succ] at y0 y1
        have gb := grow (w2.alloc (Obj.cells (dv A1 n c1 A2 m c2 L) 25)) (Obj.cells #[.int .i64 i, .string t] 47)
        have ob3 := ob2.below gb
        have o4 := o3.below gb
        have hr3 := hr2.below gb
        have hp3 := hp2.below gb
        have n1 := hp3.ne o4 (by decide)
        have n2 := hp3.ne ob3.o (by decide)
        have n3 := hp3.ne ob3.q (by decide)
        have n4 := RS.neP hp3 hr3
        clear y gb ob2 o3 hr2 hp2
        go_wp2_with (at_builtin; refine app_write rfl _ _ rfl w1.heap.size _ _ _ _ rfl hp3 _ _ (i, t) rfl y0 y1 (by omega) (by simp; omega) _ rfl ?_)
        intro G cap' w4 hp4 hg4 hA4 hb4
        have l4 := o4.lt
        have o5 : Nm.Own w4 w2.heap.size 25 (dv A1 n c1 A2 m c2 L) := (hg4.block _ o4.lt n1).trans o4
        have ob5 : B2 w (dv A n c A' m c' L) (dv none 0 0 none 0 0 0) w4 := ⟨(hg4.block _ ob3.o.lt n2).trans ob3.o, (hg4.block _ ob3.q.lt n3).trans ob3.q, ob3.b.trans (hb4.mono (by omega))⟩
        have hr5 := hr3.kept hg4 n4
        have d1 := o5.cell 1
        have f1 := o5.frozen 1
        have d2 := ob5.o.cell 2
        simp only [List.getElem?_toArray, List.getElem?_cons_zero, List.getElem?_cons_succ] at d1 d2
        have s6 := St.cellOf w4 w2.heap.size 1 (.slice (some ⟨G, 0, none⟩) (m + 1) cap')
        have o6 : Nm.Own (w4.setCell ⟨w2.heap.size, 1, none⟩ (.slice (some ⟨G, 0, none⟩) (m + 1) cap')) w2.heap.size 25 (dv A1 n c1 (some ⟨G, 0, none⟩) (m + 1) cap' L) := o5.set 1 _
        have ob6 : B2 w (dv A n c A' m c' L) (dv none 0 0 none 0 0 0) (w4.setCell ⟨w2.heap.size, 1, none⟩ (.slice (some ⟨G, 0, none⟩) (m + 1) cap')) := ⟨s6.own ob5.o (by omega), s6.own ob5.q (by omega), s6.below ob5.b (by omega)⟩
        have hr6 := s6.rsn hr5 (RS.ne hr5 o5 (by decide))
        have hp6 := s6.rpn hp4 (hp4.ne o5 (by decide))
        have e2 := ob6.o.cell 2
        have x2 := o6.cell 2
        have y2 := o6.frozen 2
        simp only [List.getElem?_toArray, List.getElem?_cons_zero, List.getElem?_cons_succ] at e2 x2
        have s7 := St.cellOf (w4.setCell ⟨w2.heap.size, 1, none⟩ (.slice (some ⟨G, 0, none⟩) (m + 1) cap')) w2.heap.size 2 (.int .i64 (Dm.less L))
        have o7 : Nm.Own ((w4.setCell ⟨w2.heap.size, 1, none⟩ (.slice (some ⟨G, 0, none⟩) (m + 1) cap')).setCell ⟨w2.heap.size, 2, none⟩ (.int .i64 (Dm.less L))) w2.heap.size 25 (dv A1 n c1 (some ⟨G, 0, none⟩) (m + 1) cap' (Dm.less L)) := o6.set 2 _
        have ob7 : B2 w (dv A n c A' m c' L) (dv none 0 0 none 0 0 0) ((w4.setCell ⟨w2.heap.size, 1, none⟩ (.slice (some ⟨G, 0, none⟩) (m + 1) cap')).setCell ⟨w2.heap.size, 2, none⟩ (.int .i64 (Dm.less L))) := ⟨s7.own ob6.o (by omega), s7.own ob6.q (by omega), s7.below ob6.b (by omega)⟩
        have hr7 := s7.rsn hr6 (RS.ne hr6 o6 (by decide))
        have hp7 := s7.rpn hp6 (hp6.ne o6 (by decide))
        clear o4 o5 ob3 ob5 hr3 hp3 hr5 hp4 s6 s7 n1 n2 n3 n4 hg4 hA4 hb4 y0 y1 ob6 hr6 hp6 o6 hL
        go_wp2_with fail
        refine (hone _).mono ?_
        rintro e w8 ⟨rfl, rfl⟩
        go_wp2_with (first | (refine ld25 rfl rfl rfl o7 ?_) | (refine sto25 rfl rfl rfl rfl ob7.q rfl ?_))
        intro w9 q9 s9
        go_wp2_with fail
        refine res25e rfl rfl rfl q9 rfl ⟨⟨A1, n, c1, some ⟨G, 0, none⟩, m + 1, cap', rfl, ⟨Tz.of (s9.rs hr7 (by omega)) H0.out.b.m, (s9.rp hp7 (by omega)).pz (by omega), hless⟩⟩, (ob7.set q9 s9).b⟩
    · rw [if_neg ht]
      have ht' : ¬ (t.size : Int) = 128 := by omega
      clear hfr hone
      go_enter Try.func16, Try.ntmps16
      go_wp2_with fail
      refine (hhas _).mono ?_
      rintro e w1 ⟨rfl, hx1⟩
      have ob1 := ob.below hx1
      clear ob hhas h
      go_wp2_with (first | (refine sto25 (A := none) (n := 0) (c := 0) (A' := none) (m := 0) (c' := 0) (l := 0) rfl rfl rfl rfl ob1.q rfl ?_))
      intro w4 q4 s4
      go_wp2_with fail
      exact res25e rfl rfl rfl q4 rfl ⟨AnsIs.zero _ _, (ob1.set q4 s4).b⟩
  · rw [decide_eq_false hi] at hhas
    rw [if_neg hi]
    clear hfr hone
    go_enter Try.func16, Try.ntmps16
    go_wp2_with fail
    refine (hhas _).mono ?_
    rintro e w1 ⟨rfl, hx1⟩
    have ob1 := ob.below hx1
    clear ob hhas h
    go_wp2_with (first | (refine sto25 (A := none) (n := 0) (c := 0) (A' := none) (m := 0) (c' := 0) (l := 0) rfl rfl rfl rfl ob1.q rfl ?_))
    intro w4 q4 s4
    go_wp2_with fail
    exact res25e rfl rfl rfl q4 rfl ⟨AnsIs.zero _ _, (ob1.set q4 s4).b⟩
set_option maxHeartbeats 1000000 in
theorem rput_any (A : Option Addr) (n c : Nat) (A' : Option Addr) (m c' : Nat) (d : Dm.Dr) (i : Int) (t : ByteArray) (w : World) (h : Dz w A n c A' m c' d) (hm : m ≤ 90000) :
    Calls Try.prog 17 #[.agg (dv A n c A' m c' d.left), .int .i64 i, .string t] w fun e w' => AnsIs (Dm.putM d i t) e w' ∧ Below w.heap.size w w' := by
  have ob := B2.new w (dv A n c A' m c' d.left) (dv none 0 0 none 0 0 0)
  have H0 := Lib.hid h
  have hn : d.B.length = n := h.b.t.1
  have hnm := h.b.m
  have hll := h.l
  have hless := fun (v : Option Addr × Nat × Nat) wr => less_any A n c v.1 v.2.1 v.2.2 d.left wr h.l.1 h.l.2
  unfold Dm.putM
  rw [hn]
  by_cases hi : 0 ≤ i ∧ i < (n : Int)
  · rw [if_pos hi]
    have t0 : ¬ i < 0 := by omega
    have t1 : ¬ (n : Int) ≤ i := by omega
    have t2 := hi.1
    have t3 := hi.2
    by_cases ht : t.size = 128
    · rw [if_pos ht]
      have ht' : (t.size : Int) = 128 := by omega
      by_cases hl : d.left = 0
      · rw [if_pos hl]
        rw [hl] at ob ⊢
        clear hless
        have d2 := ob.o.cell 2
        simp only [List.getElem?_toArray, List.getElem?_cons_zero, List.getElem?_cons_succ] at d2
        clear h
        go_enter Try.func17, Try.ntmps17
        go_wp2_with (first | (refine ld25 rfl rfl rfl ob.o ?_) | (refine sto25 rfl rfl rfl rfl ob.q rfl ?_))
        intro w4 q4 s4
        have ob4 := ob.set q4 s4
        go_wp2_with fail
        refine res25e rfl rfl rfl q4 rfl ⟨⟨A, n, c, A', m, c', by show _ = Ending.returned (.tuple #[.agg (dv A n c A' m c' d.left), .int .i64 17]); rw [hl]; rfl, H0.out.below ob4.b⟩, ob4.b⟩
      · rw [if_neg hl]
        have hls := Dm.less_in h.l
        unfold Dm.putted
        generalize hL : d.left = L at *
        have d1 := ob.o.cell 1
        have d2 := ob.o.cell 2
        simp only [List.getElem?_toArray, List.getElem?_cons_zero, List.getElem?_cons_succ] at d1 d2
        have sz1 : ((w.alloc (Obj.cells (dv A n c A' m c' L) 25)).alloc (Obj.cells (dv none 0 0 none 0 0 0) 25)).heap.size = w.heap.size + 2 := by simp
        have gb := grow ((w.alloc (Obj.cells (dv A n c A' m c' L) 25)).alloc (Obj.cells (dv none 0 0 none 0 0 0) 25)) (Obj.cells #[] 47)
        have ob1 := ob.below gb
        have r0 : RP (((w.alloc (Obj.cells (dv A n c A' m c' L) 25)).alloc (Obj.cells (dv none 0 0 none 0 0 0) 25)).alloc (Obj.cells #[] 47)) (w.heap.size + 2) (some ⟨w.heap.size + 2, 0, none⟩) 0 0 [] := RP.empty (by rw [← sz1]; exact Nm.Own.new _ 47 #[]) (Nat.le_refl _)
        have p1 := (H0.out.below ob1.b).p
        clear h gb
        have e1 : w.heap.size + 1 + 1 = w.heap.size + 2 := rfl
        go_enter Try.func17, Try.ntmps17
        go_wp2_with (at_builtin; refine app_writes rfl _ _ rfl (w.heap.size + 2) _ _ rfl r0 _ _ _ _ rfl p1 (by simp) ?_)
        intro A2 c2 w2 hp2 hb2
        have ob2 := ob1.low hb2
        have l2 := ob2.lt
        have y := Nm.Own.new w2 47 #[.int .i64 i, .string t]
        have y0 := y.cell 0
        have y1 := y.cell 1
        simp only [List.getElem?_toArray, List.getElem?_cons_zero, List.getElem?_cons_succ] at y0 y1
        have gb := grow w2 (Obj.cells #[.int .i64 i, .string t] 47)
        have hp3 := hp2.below gb
        have ob3 := ob2.below gb
        clear ob ob1 ob2 r0 p1 d1 d2 gb y hb2 hp2
        go_wp2_with (at_builtin; refine app_write rfl _ _ rfl (w.heap.size + 2) _ _ _ _ rfl hp3 _ _ (i, t) rfl y0 y1 (by omega) (by simp; omega) _ rfl ?_)
        intro G cap' w4 hp4 _ _ hb4
        have ob4 := ob3.low hb4
        have d1 := ob4.o.cell 1
        have f1 := ob4.o.frozen 1
        simp only [List.getElem?_toArray, List.getElem?_cons_zero, List.getElem?_cons_succ] at d1
        have s5 := St.cellOf w4 w.heap.size 1 (.slice (some ⟨G, 0, none⟩) (m + 1) cap')
        have o5 : Nm.Own (w4.setCell ⟨w.heap.size, 1, none⟩ (.slice (some ⟨G, 0, none⟩) (m + 1) cap')) w.heap.size 25 (dv A n c (some ⟨G, 0, none⟩) (m + 1) cap' L) := ob4.o.set 1 _
        have q5 := s5.own ob4.q (by omega)
        have hp5 := s5.rp hp4 (by omega)
        have hb5 := s5.below ob4.b (Nat.le_refl _)
        have ob5 : B2 w (dv A n c (some ⟨G, 0, none⟩) (m + 1) cap' L) (dv none 0 0 none 0 0 0) (w4.setCell ⟨w.heap.size, 1, none⟩ (.slice (some ⟨G, 0, none⟩) (m + 1) cap')) := ⟨o5, q5, hb5⟩
        have hls5 := fun wr => hless (some ⟨G, 0, none⟩, m + 1, cap') wr
        clear ob3 ob4 hp3 hp4 hb4 y0 y1 s5 q5 hb5 o5 hless
        go_wp2_with (refine ld25 rfl rfl rfl ob5.o ?_)
        refine (hls5 _).mono ?_
        rintro e w6 ⟨rfl, hx6⟩
        have ob6 := ob5.below hx6
        have hp6 := hp5.below hx6
        clear ob5 hp5 hls5
        go_wp2_with (refine sto25 rfl rfl rfl rfl ob6.q rfl ?_)
        intro w9 q9 s9
        have ob9 := ob6.set q9 s9
        go_wp2_with fail
        refine res25e rfl rfl rfl q9 rfl ⟨⟨A, n, c, some ⟨G, 0, none⟩, m + 1, cap', rfl, ⟨H0.out.b.below ob9.b, (s9.rp hp6 (by omega)).pz (by omega), hls⟩⟩, ob9.b⟩
    · rw [if_neg ht]
      have ht' : ¬ (t.size : Int) = 128 := by omega
      clear hless h
      go_enter Try.func17, Try.ntmps17
      go_wp2_with (first | (refine sto25 (A := none) (n := 0) (c := 0) (A' := none) (m := 0) (c' := 0) (l := 0) rfl rfl rfl rfl ob.q rfl ?_))
      intro w4 q4 s4
      go_wp2_with fail
      exact res25e rfl rfl rfl q4 rfl ⟨AnsIs.zero _ _, (ob.set q4 s4).b⟩
  · rw [if_neg hi]
    clear hless h
    by_cases t0 : i < 0
    · go_enter Try.func17, Try.ntmps17
      go_wp2_with (first | (refine sto25 (A := none) (n := 0) (c := 0) (A' := none) (m := 0) (c' := 0) (l := 0) rfl rfl rfl rfl ob.q rfl ?_))
      intro w4 q4 s4
      go_wp2_with fail
      exact res25e rfl rfl rfl q4 rfl ⟨AnsIs.zero _ _, (ob.set q4 s4).b⟩
    · have t1 : (n : Int) ≤ i := by omega
      have t2 : 0 ≤ i := by omega
      clear hi
      go_enter Try.func17, Try.ntmps17
      go_wp2_with (first | (refine sto25 (A := none) (n := 0) (c := 0) (A' := none) (m := 0) (c' := 0) (l := 0) rfl rfl rfl rfl ob.q rfl ?_))
      intro w4 q4 s4
      go_wp2_with fail
      exact res25e rfl rfl rfl q4 rfl ⟨AnsIs.zero _ _, (ob.set q4 s4).b⟩
end Dw
end Go.Proofs.Ytmolbliooaofbaa
