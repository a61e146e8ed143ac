/-
  For every drive, every row of acts and every number the law DrivePlays of package drive returns true: whatever is put, flushed and crashed, each answer, and each block that is got, is the document's; the arguments read as before
-/
import Derived.Test.YtmolbliooaofbaaRows
import Derived.WalkKit
import Derived.ProofKit
import Derived.OpenShut
import Derived.ShutString
import Derived.Test.YtmolbliooaofbaaOa
namespace Go.Proofs.Ytmolbliooaofbaa.drivePlays
open Go.ChangeShapes Go.WideShapes Go.ChangeAt Go.RowKit
open Go.ChangeMaps (open_string shut_string)
open _root_.Go.Proofs.Ytmolbliooaofbaa.Dw
open _root_.Go.Proofs.Ytmolbliooaofbaa.Nm
set_option linter.unusedVariables false
set_option linter.unusedSimpArgs false

theorem own : ownKnob Try.prog.godebug = none := by kernel_rfl
/-- what the crash of both reads -/
structure Sx (G7 G9 : Nat) (A : Option Addr) (n c : Nat) (A' : Option Addr) (m c' : Nat) (L : Int) (pA : Option Addr) (pn pc : Nat) (w wq : World) : Prop where
  x : wq.cell? ⟨G7, 0, none⟩ = some (.slice A n c) ∧ wq.cell? ⟨G7, 1, none⟩ = some (.slice A' m c') ∧ wq.cell? ⟨G7, 2, none⟩ = some (.int .i64 L)
  p : wq.cell? ⟨G9, 3, none⟩ = some (.slice pA pn pc)
  b : Below w.heap.size w wq
theorem Sx.below {G7 G9 : Nat} {A : Option Addr} {n c : Nat} {A' : Option Addr} {m c' : Nat} {L : Int} {pA : Option Addr} {pn pc : Nat} {w wq w1 : World} (h : Sx G7 G9 A n c A' m c' L pA pn pc w wq) (k : Below wq.heap.size wq w1) : Sx G7 G9 A n c A' m c' L pA pn pc w w1 := by
  have l7 : G7 < wq.heap.size := World.block_lt_of_cell? _ _ h.x.1
  have l9 : G9 < wq.heap.size := World.block_lt_of_cell? _ _ h.p
  exact ⟨⟨(k.cell l7).trans h.x.1, (k.cell l7).trans h.x.2.1, (k.cell l7).trans h.x.2.2⟩, (k.cell l9).trans h.p, h.b.trans (k.mono h.b.size)⟩
theorem Sx.drew {G7 G9 : Nat} {A : Option Addr} {n c : Nat} {A' : Option Addr} {m c' : Nat} {L : Int} {pA : Option Addr} {pn pc : Nat} {w wq : World} (h : Sx G7 G9 A n c A' m c' L pA pn pc w wq) : Sx G7 G9 A n c A' m c' L pA pn pc w wq.drew := ⟨h.x, h.p, h.b.drew⟩
theorem Sx.st {G7 G9 g : Nat} {A : Option Addr} {n c : Nat} {A' : Option Addr} {m c' : Nat} {L : Int} {pA : Option Addr} {pn pc : Nat} {w wq w1 : World} (h : Sx G7 G9 A n c A' m c' L pA pn pc w wq) (hs : St g wq w1) (h7 : G7 ≠ g) (h9 : G9 ≠ g) (hg : w.heap.size ≤ g) : Sx G7 G9 A n c A' m c' L pA pn pc w w1 :=
  ⟨⟨(World.cell?_of_block (w := wq) (a := ⟨G7, 0, none⟩) (hs.block _ h7)).trans h.x.1, (World.cell?_of_block (w := wq) (a := ⟨G7, 1, none⟩) (hs.block _ h7)).trans h.x.2.1, (World.cell?_of_block (w := wq) (a := ⟨G7, 2, none⟩) (hs.block _ h7)).trans h.x.2.2⟩,
    (World.cell?_of_block (w := wq) (a := ⟨G9, 3, none⟩) (hs.block _ h9)).trans h.p, hs.below h.b hg⟩
theorem put_ok {X Y : Dm.Dr} {i : Int} {t : ByteArray} {k : Int} {q : Nat} (h : Dm.Ok X) (hp : X.P.length ≤ 60 + q) (e : Dm.putM X i t = (Y, k)) : k = 0 → Dm.Ok Y ∧ Y.P.length ≤ 60 + q + 1 := by
  intro hk
  unfold Dm.putM at e
  by_cases h1 : 0 ≤ i ∧ i < (X.B.length : Int)
  · rw [if_pos h1] at e
    by_cases h2 : t.size = 128
    · rw [if_pos h2] at e
      by_cases h3 : X.left = 0
      · rw [if_pos h3] at e; cases e; exact absurd hk (by decide)
      · rw [if_neg h3] at e
        cases e
        exact ⟨h.putted h1.1 h1.2 h2, by show (X.P ++ [_]).length ≤ _; simp; omega⟩
    · rw [if_neg h2] at e; cases e; exact absurd hk (by decide)
  · rw [if_neg h1] at e; cases e; exact absurd hk (by decide)
theorem flush_ok {X Y : Dm.Dr} {k : Int} {q : Nat} (h : Dm.Ok X) (hp : X.P.length ≤ 60 + q) (e : Dm.flushA X = (Y, k)) : k = 0 → Dm.Ok Y ∧ Y.P.length ≤ 60 + q + 1 := by
  intro hk
  unfold Dm.flushA at e
  by_cases h3 : X.left = 0
  · rw [if_pos h3] at e; cases e; exact absurd hk (by decide)
  · rw [if_neg h3] at e
    cases e
    exact ⟨h.flushed, by show ([] : List Dm.Wr).length ≤ _; simp⟩
set_option maxRecDepth 100000 in
set_option maxHeartbeats 4000000 in
theorem walk (A : Option Addr) (n c : Nat) (A' : Option Addr) (m c' : Nat) (d : Dm.Dr) (E : Option Addr) (e ec : Nat) (l : List Ac) (ask : Int) (hask : -9223372036854775808 ≤ ask ∧ ask ≤ 9223372036854775807) (w : World) (hW : Dy w A n c A' m c' d) (hI : Az w E e l) :
    Calls Try.prog 4 #[.agg (dv A n c A' m c' d.left), .slice E e ec, .int .i64 ask] w fun e w' => e = .returned (.bool true) ∧ Below w.heap.size w w' := by
  have ob := Bd.new w (dv A n c A' m c' d.left)
  have hgr := fun wr (hh : Dy wr A n c A' m c' d) => great_any A n c A' m c' d wr hh
  have hch := fun wr (hh : Dz wr A n c A' m c' d) => rcheck_any A n c A' m c' d wr hh
  have hy := hW.below ob.b
  have HI := Lib.hid hI
  have hem := hI.m
  have hlB : d.B.length = n := hW.b.1
  have HL := Lib.hid (show d.left = d.left from rfl)
  have hll := hW.l
  generalize hL : d.left = L at *
  go_enter Try.func4, Try.ntmps4
  go_wp2_with fail
  refine (hgr _ hy).mono ?_
  unfold GreatIs
  rintro e w1 ⟨hg, hx1⟩
  have ob1 := ob.below hx1
  rcases hg with rfl | ⟨rfl, hS⟩
  · go_wp2_with fail
    refine (fixed_any _).mono ?_
    rintro e w2 ⟨rfl, hx2⟩
    go_wp2_with fail
    go_ret
    exact ⟨rfl, (ob1.below hx2).b⟩
  have oz : Lz w A n c A' m c' d L w1 := ⟨ob1.o, (hW.dz hS).below ob1.b, ob1.b⟩
  clear ob ob1 hy hx1 hgr hI
  have d0 := oz.o.cell 0
  have d1 := oz.o.cell 1
  have d2 := oz.o.cell 2
  simp only [List.getElem?_toArray, List.getElem?_cons_zero, List.getElem?_cons_succ] at d0 d1 d2
  go_wp2_with fail
  clear d0 d1 d2
  refine (hch _ oz.z).mono ?_
  rintro e w2 ⟨rfl, hx2⟩
  replace oz := oz.below hx2
  by_cases hc : ¬ Dm.chkM d = 0
  · have hcb : (Dm.chkM d != 0) = true := by simp [hc]
    go_wp2_with fail
    refine (fixed_any _).mono ?_
    rintro e w3 ⟨rfl, hx3⟩
    go_wp2_with fail
    go_ret
    exact ⟨rfl, (oz.below hx3).b⟩
  replace hc := Decidable.not_not.1 hc
  have hok := Dm.chk_ok.1 hc
  rw [hc]
  clear hc hx2
  by_cases he : 30 < e
  · have he' : (30 : Int) < (e : Int) := by omega
    go_wp2_with fail
    refine (fixed_any _).mono ?_
    rintro e w3 ⟨rfl, hx3⟩
    go_wp2_with fail
    go_ret
    exact ⟨rfl, (oz.below hx3).b⟩
  have he' : ¬ (30 : Int) < (e : Int) := by omega
  have HOK := Lib.hid hok
  have HLL := Lib.hid hL
  clear hch hok hL
  have d0 := oz.o.cell 0
  have d1 := oz.o.cell 1
  have d2 := oz.o.cell 2
  simp only [List.getElem?_toArray, List.getElem?_cons_zero, List.getElem?_cons_succ] at d0 d1 d2
  have hb := oz.b.alloc oz.b.size (Obj.cells (dv A n c A' m c' L) 25)
  have hG7 := oz.b.size
  have mx := Mz.new oz.z L
  go_wp2_with fail
  clear d0 d1 d2 oz
  generalize w2.alloc (Obj.cells (dv A n c A' m c' L) 25) = V2 at *
  generalize w2.heap.size = G7 at *
  go_loopw [9, 10, 11, 12, 13, 14, 15, 16, 17, 35] (fun _ _ _ _ _ _ _ _ _ j wr => ∃ (q : Nat) (A1 : Option Addr) (n1 c1 : Nat) (E1 : Option Addr) (q1 f1 : Nat) (X : Dm.Dr), q ≤ e ∧ j = .int .i64 q ∧ Mz G7 A1 n1 c1 E1 q1 f1 X X.left wr ∧ Below w.heap.size w wr ∧ Dm.Ok X ∧ X.P.length ≤ 60 + q) (fun _ _ _ _ _ _ _ _ _ j _ => e - (intOf j).toNat)
  case atStart => exact ⟨0, A, n, c, A', m, c', d, Nat.zero_le _, rfl, by rw [HLL.out]; exact mx, hb, HOK.out, by have := hS.m; omega⟩
  case round =>
    clear mx hb
    obtain ⟨q, A1, n1, c1, E1, q1, f1, X, hq, rfl, mx, hb, hXO, hXP⟩ := hrel
    obtain ⟨LX, hLX⟩ : ∃ LX, X.left = LX := ⟨_, rfl⟩
    rw [hLX] at mx
    have HML := Lib.hid hLX
    have HXO := Lib.hid hXO
    have HXP := Lib.hid hXP
    clear hLX hXO hXP
    by_cases hlt : q < e
    · have hlt' : (q : Int) < (e : Int) := by omega
      have hAz := HI.out.below hb
      obtain ⟨b, off, rfl, hc⟩ := hAz.c (by omega)
      obtain ⟨a0, a1, a2, a3⟩ := hc q hlt
      have hAok := HI.out.ok q hlt
      clear hc hAz
      generalize anth l q = ac at *
      obtain ⟨kind, ai, tx, pA, pn, pc, pK⟩ := ac
      have HAO := Lib.hid hAok
      have hpm := hAok.z.m
      dsimp only at a0 a1 a2 a3 hpm
      clear hAok
      have gb := grow wr (Obj.cells #[.int .i64 kind, .int .i64 ai, .string tx, .slice pA pn pc] 37)
      replace mx := mx.below gb
      replace hb := hb.trans (gb.mono hb.size)
      have o9 := Nm.Own.new wr 37 #[.int .i64 kind, .int .i64 ai, .string tx, .slice pA pn pc]
      clear gb
      by_cases hg1 : 1000 < tx.size
      · have hg1' : (1000 : Int) < (tx.size : Int) := by omega
        go_wp2_with fail
        refine (fixed_any _).mono ?_
        rintro e w6 ⟨rfl, hx6⟩
        go_wp2_with fail
        go_ret
        exact ⟨rfl, hb.trans (hx6.mono hb.size)⟩
      have hg1' : ¬ (1000 : Int) < (tx.size : Int) := by omega
      by_cases hg2 : 100 < pn
      · have hg2' : (100 : Int) < (pn : Int) := by omega
        go_wp2_with fail
        refine (fixed_any _).mono ?_
        rintro e w6 ⟨rfl, hx6⟩
        go_wp2_with fail
        go_ret
        exact ⟨rfl, hb.trans (hx6.mono hb.size)⟩
      have hg2' : ¬ (100 : Int) < (pn : Int) := by omega
      go_upto_region 9 with fail
      generalize wr.alloc (Obj.cells #[.int .i64 kind, .int .i64 ai, .string tx, .slice pA pn pc] 37) = V at *
      generalize wr.heap.size = G9 at *
      go_cut [10, 11] from 50 to 51 (fun s10 s11 wc => ∃ (Gy Gz : Nat), s10 = .pointer (some ⟨Gy, 0, none⟩) ∧ s11 = .pointer (some ⟨Gz, 0, none⟩) ∧ Gy ≠ Gz ∧ G7 ≠ Gy ∧ G7 ≠ Gz ∧ G9 ≠ Gy ∧ G9 ≠ Gz ∧ w.heap.size ≤ Gy ∧ w.heap.size ≤ Gz ∧ Nm.Own wc Gy 25 (dv A1 n1 c1 E1 q1 f1 LX) ∧ Nm.Own wc Gz 25 (dv A1 n1 c1 E1 q1 f1 LX) ∧ Mz G7 A1 n1 c1 E1 q1 f1 X LX wc ∧ Below w.heap.size w wc ∧ Nm.Own wc G9 37 #[.int .i64 kind, .int .i64 ai, .string tx, .slice pA pn pc])
      case first =>
        refine wp_region_held_drew (S := fun w' => Nm.Own w' G7 25 (dv A1 n1 c1 E1 q1 f1 LX) ∧ Below w.heap.size w w') (by kernel_rfl) ⟨mx.drew.o, hb.drew⟩ (fun hHeld => ?_)
        replace mx := mx.drew
        replace hb := hb.drew
        replace o9 := Own.dr o9 (Dr.refl V).drew
        generalize V.drew = V0 at *
        refine wpAnyH_take (i := 0) (oi := { dst := some 50, op := Op.load 25 (Operand.tmp 7), type := _, pos := _, after := _, guard := _ }) (v := ?_) rfl (by kernel_rfl) (by kernel_rfl) (by kernel_rfl) (fun _ _ _ h => h) (Or.inl ⟨by rfl, ?_⟩) hHeld ?_
        rotate_left
        · intro wq hSw
          have d0 := hSw.1.cell 0
          have d1 := hSw.1.cell 1
          have d2 := hSw.1.cell 2
          simp only [List.getElem?_toArray, List.getElem?_cons_zero, List.getElem?_cons_succ] at d0 d1 d2
          go_simp
          rfl
        try simp only [Act.put, List.setIfInBounds_toArray, List.set_cons_zero, List.set_cons_succ]
        refine wpAnyH_take (i := 1) (oi := { dst := some 51, op := Op.load 25 (Operand.tmp 7), type := _, pos := _, after := _, guard := _ }) (v := ?_) rfl (by kernel_rfl) (by kernel_rfl) (by kernel_rfl) (fun _ _ _ h => h) (Or.inl ⟨by rfl, ?_⟩) hHeld ?_
        rotate_left
        · intro wq hSw
          have d0 := hSw.1.cell 0
          have d1 := hSw.1.cell 1
          have d2 := hSw.1.cell 2
          simp only [List.getElem?_toArray, List.getElem?_cons_zero, List.getElem?_cons_succ] at d0 d1 d2
          go_simp
          rfl
        try simp only [Act.put, List.setIfInBounds_toArray, List.set_cons_zero, List.set_cons_succ]
        refine wpAnyH_ready (rs := [2, 3]) (by kernel_rfl) (by simp) ?_
        refine AllReadyH.cons (o := { dst := some 10, op := Op.alloc 25, type := _, pos := _, after := _, guard := _ }) rfl (fun KK hKK => ?_) ?_
        · have hKS := Lib.hid hKK
          clear hKK
          have hx := grow V0 (Obj.cells (dv none 0 0 none 0 0 0) 25)
          have oy := Nm.Own.new V0 25 (dv none 0 0 none 0 0 0)
          have l7 := mx.o.lt
          have l9 := o9.lt
          have hbs := hb.size
          go_simp
          replace mx := mx.below hx
          replace hb := hb.trans (hx.mono hb.size)
          replace o9 := o9.below hx
          try have lo := oq.lt
          try replace oq := oq.below hx
          refine hKS.out.out _ _ ⟨mx.o, hb⟩ (fun hHeld => ?_)
          clear hKS KK hx
          generalize World.alloc V0 (Obj.cells (dv none 0 0 none 0 0 0) 25) = V2 at *
          generalize V0.heap.size = Gy at *
          try simp only [Act.put, List.setIfInBounds_toArray, List.set_cons_zero, List.set_cons_succ]
          refine wpAnyH_ready (rs := [3]) (by kernel_rfl) (by simp) ?_
          refine AllReadyH.cons (o := { dst := some 11, op := Op.alloc 25, type := _, pos := _, after := _, guard := _ }) rfl (fun KK hKK => ?_) AllReadyH.nil
          have hKS := Lib.hid hKK
          clear hKK
          have hx := grow V2 (Obj.cells (dv none 0 0 none 0 0 0) 25)
          have oq := Nm.Own.new V2 25 (dv none 0 0 none 0 0 0)
          have l7 := mx.o.lt
          have l9 := o9.lt
          have hbs := hb.size
          go_simp
          replace mx := mx.below hx
          replace hb := hb.trans (hx.mono hb.size)
          replace o9 := o9.below hx
          try have lo := oy.lt
          try replace oy := oy.below hx
          refine hKS.out.out _ _ ⟨mx.o, hb⟩ (fun hHeld => ?_)
          clear hKS KK hx
          generalize World.alloc V2 (Obj.cells (dv none 0 0 none 0 0 0) 25) = V3 at *
          generalize V2.heap.size = Gz at *
          try simp only [Act.put, List.setIfInBounds_toArray, List.set_cons_zero, List.set_cons_succ]
          refine wpAnyH_ready (rs := [4]) (by kernel_rfl) (by simp) ?_
          refine AllReadyH.cons (o := { dst := none, op := Op.store 25 (Operand.tmp 10) (Operand.tmp 50), type := _, pos := _, after := _, guard := _ }) rfl (fun KK hKK => ?_) AllReadyH.nil
          have hKS := Lib.hid hKK
          clear hKK
          have s7 := St.row V3 Gy (dv A1 n1 c1 E1 q1 f1 LX)
          have o7 : Nm.Own (V3.setRow Gy (dv A1 n1 c1 E1 q1 f1 LX)) Gy 25 (dv A1 n1 c1 E1 q1 f1 LX) := setRow_heap V3 Gy _ _ 25 (0, 0) oy
          have mx2 : Mz G7 A1 n1 c1 E1 q1 f1 X LX (V3.setRow Gy (dv A1 n1 c1 E1 q1 f1 LX)) := ⟨s7.own mx.o (by omega), mx.z.st oy s7⟩
          have hb2 := s7.below hb (by omega)
          have o92 := s7.own o9 (by omega)
          have ot2 := s7.own oq (by omega)
          refine st25 (A := A1) (n := n1) (c := c1) (A' := E1) (m := q1) (c' := f1) (l := LX) rfl (.tmp 10) (.tmp 50) rfl (by simp [Act.eval, Act.put]) (by simp [Act.eval, Act.put]) oy rfl ?_
          refine hKS.out.out _ _ ⟨mx2.o, hb2⟩ (fun hHeld => ?_)
          clear hKS KK s7 mx hb o9 oq oy
          have mx := mx2
          have hb := hb2
          have o9 := o92
          have oq := ot2
          have oy := o7
          clear mx2 hb2 o92 ot2 o7
          generalize V3.setRow Gy (dv A1 n1 c1 E1 q1 f1 LX) = W4 at *
          try simp only [Act.put, List.setIfInBounds_toArray, List.set_cons_zero, List.set_cons_succ]
          refine wpAnyH_ready (rs := [5]) (by kernel_rfl) (by simp) ?_
          refine AllReadyH.cons (o := { dst := none, op := Op.store 25 (Operand.tmp 11) (Operand.tmp 51), type := _, pos := _, after := _, guard := _ }) rfl (fun KK hKK => ?_) AllReadyH.nil
          have hKS := Lib.hid hKK
          clear hKK
          have s7 := St.row W4 Gz (dv A1 n1 c1 E1 q1 f1 LX)
          have o7 : Nm.Own (W4.setRow Gz (dv A1 n1 c1 E1 q1 f1 LX)) Gz 25 (dv A1 n1 c1 E1 q1 f1 LX) := setRow_heap W4 Gz _ _ 25 (0, 0) oq
          have mx2 : Mz G7 A1 n1 c1 E1 q1 f1 X LX (W4.setRow Gz (dv A1 n1 c1 E1 q1 f1 LX)) := ⟨s7.own mx.o (by omega), mx.z.st oq s7⟩
          have hb2 := s7.below hb (by omega)
          have o92 := s7.own o9 (by omega)
          have ot2 := s7.own oy (by omega)
          refine st25 (A := A1) (n := n1) (c := c1) (A' := E1) (m := q1) (c' := f1) (l := LX) rfl (.tmp 11) (.tmp 51) rfl (by simp [Act.eval, Act.put]) (by simp [Act.eval, Act.put]) oq rfl ?_
          refine hKS.out.out _ _ ⟨mx2.o, hb2⟩ (fun hHeld => ?_)
          clear hKS KK s7 mx hb o9 oy oq
          have mx := mx2
          have hb := hb2
          have o9 := o92
          have oy := ot2
          have oq := o7
          clear mx2 hb2 o92 ot2 o7
          generalize W4.setRow Gz (dv A1 n1 c1 E1 q1 f1 LX) = W5 at *
          try simp only [Act.put, List.setIfInBounds_toArray, List.set_cons_zero, List.set_cons_succ]
          refine wpAnyH_done (by kernel_rfl) ?_ _
          go_wp2_with fail
          go_meet
          case rel => exact ⟨Gy, Gz, rfl, rfl, by omega, by omega, by omega, by omega, by omega, by omega, by omega, oy, oq, mx, hb, o9⟩
        refine AllReadyH.cons (o := { dst := some 11, op := Op.alloc 25, type := _, pos := _, after := _, guard := _ }) rfl (fun KK hKK => ?_) AllReadyH.nil
        · have hKS := Lib.hid hKK
          clear hKK
          have hx := grow V0 (Obj.cells (dv none 0 0 none 0 0 0) 25)
          have oq := Nm.Own.new V0 25 (dv none 0 0 none 0 0 0)
          have l7 := mx.o.lt
          have l9 := o9.lt
          have hbs := hb.size
          go_simp
          replace mx := mx.below hx
          replace hb := hb.trans (hx.mono hb.size)
          replace o9 := o9.below hx
          try have lo := oy.lt
          try replace oy := oy.below hx
          refine hKS.out.out _ _ ⟨mx.o, hb⟩ (fun hHeld => ?_)
          clear hKS KK hx
          generalize World.alloc V0 (Obj.cells (dv none 0 0 none 0 0 0) 25) = V3 at *
          generalize V0.heap.size = Gz at *
          try simp only [Act.put, List.setIfInBounds_toArray, List.set_cons_zero, List.set_cons_succ]
          refine wpAnyH_ready (rs := [2]) (by kernel_rfl) (by simp) ?_
          refine AllReadyH.cons (o := { dst := some 10, op := Op.alloc 25, type := _, pos := _, after := _, guard := _ }) rfl (fun KK hKK => ?_) AllReadyH.nil
          have hKS := Lib.hid hKK
          clear hKK
          have hx := grow V3 (Obj.cells (dv none 0 0 none 0 0 0) 25)
          have oy := Nm.Own.new V3 25 (dv none 0 0 none 0 0 0)
          have l7 := mx.o.lt
          have l9 := o9.lt
          have hbs := hb.size
          go_simp
          replace mx := mx.below hx
          replace hb := hb.trans (hx.mono hb.size)
          replace o9 := o9.below hx
          try have lo := oq.lt
          try replace oq := oq.below hx
          refine hKS.out.out _ _ ⟨mx.o, hb⟩ (fun hHeld => ?_)
          clear hKS KK hx
          generalize World.alloc V3 (Obj.cells (dv none 0 0 none 0 0 0) 25) = V2 at *
          generalize V3.heap.size = Gy at *
          try simp only [Act.put, List.setIfInBounds_toArray, List.set_cons_zero, List.set_cons_succ]
          refine wpAnyH_ready (rs := [4]) (by kernel_rfl) (by simp) ?_
          refine AllReadyH.cons (o := { dst := none, op := Op.store 25 (Operand.tmp 10) (Operand.tmp 50), type := _, pos := _, after := _, guard := _ }) rfl (fun KK hKK => ?_) AllReadyH.nil
          have hKS := Lib.hid hKK
          clear hKK
          have s7 := St.row V2 Gy (dv A1 n1 c1 E1 q1 f1 LX)
          have o7 : Nm.Own (V2.setRow Gy (dv A1 n1 c1 E1 q1 f1 LX)) Gy 25 (dv A1 n1 c1 E1 q1 f1 LX) := setRow_heap V2 Gy _ _ 25 (0, 0) oy
          have mx2 : Mz G7 A1 n1 c1 E1 q1 f1 X LX (V2.setRow Gy (dv A1 n1 c1 E1 q1 f1 LX)) := ⟨s7.own mx.o (by omega), mx.z.st oy s7⟩
          have hb2 := s7.below hb (by omega)
          have o92 := s7.own o9 (by omega)
          have ot2 := s7.own oq (by omega)
          refine st25 (A := A1) (n := n1) (c := c1) (A' := E1) (m := q1) (c' := f1) (l := LX) rfl (.tmp 10) (.tmp 50) rfl (by simp [Act.eval, Act.put]) (by simp [Act.eval, Act.put]) oy rfl ?_
          refine hKS.out.out _ _ ⟨mx2.o, hb2⟩ (fun hHeld => ?_)
          clear hKS KK s7 mx hb o9 oq oy
          have mx := mx2
          have hb := hb2
          have o9 := o92
          have oq := ot2
          have oy := o7
          clear mx2 hb2 o92 ot2 o7
          generalize V2.setRow Gy (dv A1 n1 c1 E1 q1 f1 LX) = W4 at *
          try simp only [Act.put, List.setIfInBounds_toArray, List.set_cons_zero, List.set_cons_succ]
          refine wpAnyH_ready (rs := [5]) (by kernel_rfl) (by simp) ?_
          refine AllReadyH.cons (o := { dst := none, op := Op.store 25 (Operand.tmp 11) (Operand.tmp 51), type := _, pos := _, after := _, guard := _ }) rfl (fun KK hKK => ?_) AllReadyH.nil
          have hKS := Lib.hid hKK
          clear hKK
          have s7 := St.row W4 Gz (dv A1 n1 c1 E1 q1 f1 LX)
          have o7 : Nm.Own (W4.setRow Gz (dv A1 n1 c1 E1 q1 f1 LX)) Gz 25 (dv A1 n1 c1 E1 q1 f1 LX) := setRow_heap W4 Gz _ _ 25 (0, 0) oq
          have mx2 : Mz G7 A1 n1 c1 E1 q1 f1 X LX (W4.setRow Gz (dv A1 n1 c1 E1 q1 f1 LX)) := ⟨s7.own mx.o (by omega), mx.z.st oq s7⟩
          have hb2 := s7.below hb (by omega)
          have o92 := s7.own o9 (by omega)
          have ot2 := s7.own oy (by omega)
          refine st25 (A := A1) (n := n1) (c := c1) (A' := E1) (m := q1) (c' := f1) (l := LX) rfl (.tmp 11) (.tmp 51) rfl (by simp [Act.eval, Act.put]) (by simp [Act.eval, Act.put]) oq rfl ?_
          refine hKS.out.out _ _ ⟨mx2.o, hb2⟩ (fun hHeld => ?_)
          clear hKS KK s7 mx hb o9 oy oq
          have mx := mx2
          have hb := hb2
          have o9 := o92
          have oy := ot2
          have oq := o7
          clear mx2 hb2 o92 ot2 o7
          generalize W4.setRow Gz (dv A1 n1 c1 E1 q1 f1 LX) = W5 at *
          try simp only [Act.put, List.setIfInBounds_toArray, List.set_cons_zero, List.set_cons_succ]
          refine wpAnyH_done (by kernel_rfl) ?_ _
          go_wp2_with fail
          go_meet
          case rel => exact ⟨Gy, Gz, rfl, rfl, by omega, by omega, by omega, by omega, by omega, by omega, by omega, oy, oq, mx, hb, o9⟩
      case rest =>
        obtain ⟨Gy, Gz, rfl, rfl, hyz, h7y, h7z, h9y, h9z, hGy, hGz, oy, oq, mx, hb, o9⟩ := hcut
        have e0 := o9.cell 0
        simp only [List.getElem?_toArray, List.getElem?_cons_zero, List.getElem?_cons_succ] at e0
        clear a0 a1 a2 a3
        by_cases hk0 : kind = 0
        · subst hk0
          obtain ⟨Y, hY⟩ : ∃ Y, (Dm.putM X ai tx).1 = Y := ⟨_, rfl⟩
          obtain ⟨kk, hkk⟩ : ∃ kk, (Dm.putM X ai tx).2 = kk := ⟨_, rfl⟩
          obtain ⟨LY, hLY⟩ : ∃ LY, Y.left = LY := ⟨_, rfl⟩
          have HPAIR := Lib.hid (show Dm.putM X ai tx = (Y, kk) by rw [← hY, ← hkk])
          have HYO := Lib.hid (show kk = 0 → Dm.Ok Y ∧ Y.P.length ≤ 60 + q + 1 from put_ok HXO.out HXP.out HPAIR.out)
          have HXL := Lib.hid hLY
          clear hY hkk hLY
          have hc1 := put_lit mx.z HML.out (by have := HXP.out; omega) ai tx
          rw [HPAIR.out] at hc1
          have e1 := o9.cell 1
          have e2 := o9.cell 2
          simp only [List.getElem?_toArray, List.getElem?_cons_zero, List.getElem?_cons_succ] at e1 e2
          go_wp2_with (refine ld25 rfl rfl rfl mx.o ?_)
          refine hc1.mono ?_
          clear hc1
          rintro e w10 ⟨ha, hx⟩
          obtain ⟨A2, n2, c2, E2, q2, f2, rfl, z2⟩ := ha.lit (L := LY) (k := kk) HXL.out rfl
          replace mx := mx.below hx
          replace hb := hb.trans (hx.mono hb.size)
          replace o9 := o9.below hx
          replace oy := oy.below hx
          replace oq := oq.below hx
          clear e1 e2
          clear ha hx
          go_wp2_with (refine sto25 rfl rfl rfl rfl oy rfl ?_)
          intro w11 oy' s11
          have my : Mz Gy A2 n2 c2 E2 q2 f2 Y LY w11 := ⟨oy', z2.st oy s11⟩
          replace mx : Mz G7 A1 n1 c1 E1 q1 f1 X LX w11 := ⟨s11.own mx.o h7y, mx.z.st oy s11⟩
          replace hb := s11.below hb hGy
          replace o9 := s11.own o9 h9y
          replace oq := s11.own oq (fun e => hyz e.symm)
          clear oy oy' s11 z2
          have hc1 := rput_lit mx.z HML.out (by have := HXP.out; omega) ai tx
          rw [HPAIR.out] at hc1
          have e1 := o9.cell 1
          have e2 := o9.cell 2
          simp only [List.getElem?_toArray, List.getElem?_cons_zero, List.getElem?_cons_succ] at e1 e2
          go_wp2_with (refine ld25 rfl rfl rfl mx.o ?_)
          refine hc1.mono ?_
          clear hc1
          rintro e w12 ⟨ha, hx⟩
          obtain ⟨A3, n3, c3, E3, q3, f3, rfl, z3⟩ := ha.lit (L := LY) (k := kk) HXL.out rfl
          replace mx := mx.below hx
          replace hb := hb.trans (hx.mono hb.size)
          replace my := my.below hx
          replace oq := oq.below hx
          clear e1 e2
          clear ha hx o9
          go_wp2_with (refine sto25 rfl rfl rfl rfl oq rfl ?_)
          intro w13 oq' s13
          have mz : Mz Gz A3 n3 c3 E3 q3 f3 Y LY w13 := ⟨oq', z3.st oq s13⟩
          replace mx : Mz G7 A1 n1 c1 E1 q1 f1 X LX w13 := ⟨s13.own mx.o h7z, mx.z.st oq s13⟩
          replace my : Mz Gy A2 n2 c2 E2 q2 f2 Y LY w13 := ⟨s13.own my.o hyz, my.z.st oq s13⟩
          replace hb := s13.below hb hGz
          clear oq oq' s13 z3
          have hsm := same_lit my.z mz.z HXL.out
          have d0 := my.o.cell 0
          have d1 := my.o.cell 1
          have d2 := my.o.cell 2
          have e0 := mz.o.cell 0
          have e1 := mz.o.cell 1
          have e2 := mz.o.cell 2
          simp only [List.getElem?_toArray, List.getElem?_cons_zero, List.getElem?_cons_succ] at d0 d1 d2 e0 e1 e2
          have tk : ((kk : Int) != (kk : Int)) = false := by simp
          go_wp2_with fail
          refine hsm.mono ?_
          clear hsm d0 d1 d2 e0 e1 e2 tk
          rintro e w20 ⟨rfl, hx⟩
          replace mx := mx.below hx
          replace mz := mz.below hx
          replace hb := hb.trans (hx.mono hb.size)
          clear my hx
          by_cases hk0 : kk = 0
          · subst hk0
            go_wp2_with (first | (refine ld25 rfl rfl rfl mz.o ?_) | (refine sto25 rfl rfl rfl rfl mx.o rfl ?_))
            intro w9 o9' s9
            replace mx : Mz G7 A3 n3 c3 E3 q3 f3 Y LY w9 := ⟨o9', mz.z.st mx.o s9⟩
            replace hb := s9.below hb hG7
            have HML := HXL
            clear mz o9' s9
            have hg1 := get_lit mx.z HML.out ask
            unfold GetIs at hg1
            go_wp2_with (refine ld25 rfl rfl rfl mx.o ?_)
            refine hg1.mono ?_
            clear hg1
            rintro e w21 ⟨he, hx⟩
            replace mx := mx.below hx
            replace hb := hb.trans (hx.mono hb.size)
            clear hx
            have hg2 := rget_lit mx.z HML.out ask
            unfold GetIs at hg2
            obtain ⟨sv1, kv1, hv⟩ : ∃ (s : ByteArray) (k : Int), (if 0 ≤ ask ∧ ask < (Y.B.length : Int) then Value.tuple #[.string (Dm.getM Y.B Y.P ask.toNat), .int .i64 0] else Value.tuple #[.string ⟨#[]⟩, .int .i64 2]) = .tuple #[.string s, .int .i64 k] := by
              by_cases hq : 0 ≤ ask ∧ ask < (Y.B.length : Int)
              · exact ⟨_, _, if_pos hq⟩
              · exact ⟨_, _, if_neg hq⟩
            rw [hv] at he hg2
            subst he
            clear hv
            go_wp2_with (refine ld25 rfl rfl rfl mx.o ?_)
            refine hg2.mono ?_
            clear hg2
            rintro e w22 ⟨rfl, hx⟩
            replace mx := mx.below hx
            replace hb := hb.trans (hx.mono hb.size)
            clear hx
            have tk : ((kv1 : Int) != (kv1 : Int)) = false := by simp
            have ts := str_yes (rfl : sv1 = sv1)
            go_wp2_with fail
            go_roundw
            case rel => exact ⟨q + 1, _, _, _, _, _, _, Y, by omega, by go_num, by rw [HML.out]; exact mx, hb, (HYO.out (by first | rfl | trivial)).1, by have := (HYO.out (by first | rfl | trivial)).2; omega⟩
            case measure => simp [intOf]; omega
          · have hk1 : (kk == 0) = false := by simp [hk0]
            clear HYO
            have hg1 := get_lit mx.z HML.out ask
            unfold GetIs at hg1
            go_wp2_with (refine ld25 rfl rfl rfl mx.o ?_)
            refine hg1.mono ?_
            clear hg1
            rintro e w21 ⟨he, hx⟩
            replace mx := mx.below hx
            replace hb := hb.trans (hx.mono hb.size)
            clear hx
            have hg2 := rget_lit mx.z HML.out ask
            unfold GetIs at hg2
            obtain ⟨sv1, kv1, hv⟩ : ∃ (s : ByteArray) (k : Int), (if 0 ≤ ask ∧ ask < (X.B.length : Int) then Value.tuple #[.string (Dm.getM X.B X.P ask.toNat), .int .i64 0] else Value.tuple #[.string ⟨#[]⟩, .int .i64 2]) = .tuple #[.string s, .int .i64 k] := by
              by_cases hq : 0 ≤ ask ∧ ask < (X.B.length : Int)
              · exact ⟨_, _, if_pos hq⟩
              · exact ⟨_, _, if_neg hq⟩
            rw [hv] at he hg2
            subst he
            clear hv
            go_wp2_with (refine ld25 rfl rfl rfl mx.o ?_)
            refine hg2.mono ?_
            clear hg2
            rintro e w22 ⟨rfl, hx⟩
            replace mx := mx.below hx
            replace hb := hb.trans (hx.mono hb.size)
            clear hx
            have tk : ((kv1 : Int) != (kv1 : Int)) = false := by simp
            have ts := str_yes (rfl : sv1 = sv1)
            go_wp2_with fail
            go_roundw
            case rel => exact ⟨q + 1, _, _, _, _, _, _, X, by omega, by go_num, by rw [HML.out]; exact mx, hb, HXO.out, by have := HXP.out; omega⟩
            case measure => simp [intOf]; omega
        have hk0' : (kind == 0) = false := by simp [hk0]
        by_cases hk1 : kind = 1
        · subst hk1
          obtain ⟨Y, hY⟩ : ∃ Y, (Dm.flushA X).1 = Y := ⟨_, rfl⟩
          obtain ⟨kk, hkk⟩ : ∃ kk, (Dm.flushA X).2 = kk := ⟨_, rfl⟩
          obtain ⟨LY, hLY⟩ : ∃ LY, Y.left = LY := ⟨_, rfl⟩
          have HPAIR := Lib.hid (show Dm.flushA X = (Y, kk) by rw [← hY, ← hkk])
          have HYO := Lib.hid (show kk = 0 → Dm.Ok Y ∧ Y.P.length ≤ 60 + q + 1 from flush_ok HXO.out HXP.out HPAIR.out)
          have HXL := Lib.hid hLY
          clear hY hkk hLY
          have hc1 := flush_lit mx.z HML.out (In.of HXO.out)
          rw [HPAIR.out] at hc1
          go_wp2_with (refine ld25 rfl rfl rfl mx.o ?_)
          refine hc1.mono ?_
          clear hc1
          rintro e w10 ⟨ha, hx⟩
          obtain ⟨A2, n2, c2, E2, q2, f2, rfl, z2⟩ := ha.lit (L := LY) (k := kk) HXL.out rfl
          replace mx := mx.below hx
          replace hb := hb.trans (hx.mono hb.size)
          replace o9 := o9.below hx
          replace oy := oy.below hx
          replace oq := oq.below hx
          clear ha hx
          go_wp2_with (refine sto25 rfl rfl rfl rfl oy rfl ?_)
          intro w11 oy' s11
          have my : Mz Gy A2 n2 c2 E2 q2 f2 Y LY w11 := ⟨oy', z2.st oy s11⟩
          replace mx : Mz G7 A1 n1 c1 E1 q1 f1 X LX w11 := ⟨s11.own mx.o h7y, mx.z.st oy s11⟩
          replace hb := s11.below hb hGy
          replace o9 := s11.own o9 h9y
          replace oq := s11.own oq (fun e => hyz e.symm)
          clear oy oy' s11 z2
          have hc1 := rflush_lit mx.z HML.out (In.of HXO.out)
          rw [HPAIR.out] at hc1
          go_wp2_with (refine ld25 rfl rfl rfl mx.o ?_)
          refine hc1.mono ?_
          clear hc1
          rintro e w12 ⟨ha, hx⟩
          obtain ⟨A3, n3, c3, E3, q3, f3, rfl, z3⟩ := ha.lit (L := LY) (k := kk) HXL.out rfl
          replace mx := mx.below hx
          replace hb := hb.trans (hx.mono hb.size)
          replace my := my.below hx
          replace oq := oq.below hx
          clear ha hx o9
          go_wp2_with (refine sto25 rfl rfl rfl rfl oq rfl ?_)
          intro w13 oq' s13
          have mz : Mz Gz A3 n3 c3 E3 q3 f3 Y LY w13 := ⟨oq', z3.st oq s13⟩
          replace mx : Mz G7 A1 n1 c1 E1 q1 f1 X LX w13 := ⟨s13.own mx.o h7z, mx.z.st oq s13⟩
          replace my : Mz Gy A2 n2 c2 E2 q2 f2 Y LY w13 := ⟨s13.own my.o hyz, my.z.st oq s13⟩
          replace hb := s13.below hb hGz
          clear oq oq' s13 z3
          have hsm := same_lit my.z mz.z HXL.out
          have d0 := my.o.cell 0
          have d1 := my.o.cell 1
          have d2 := my.o.cell 2
          have e0 := mz.o.cell 0
          have e1 := mz.o.cell 1
          have e2 := mz.o.cell 2
          simp only [List.getElem?_toArray, List.getElem?_cons_zero, List.getElem?_cons_succ] at d0 d1 d2 e0 e1 e2
          have tk : ((kk : Int) != (kk : Int)) = false := by simp
          go_wp2_with fail
          refine hsm.mono ?_
          clear hsm d0 d1 d2 e0 e1 e2 tk
          rintro e w20 ⟨rfl, hx⟩
          replace mx := mx.below hx
          replace mz := mz.below hx
          replace hb := hb.trans (hx.mono hb.size)
          clear my hx
          by_cases hk0 : kk = 0
          · subst hk0
            go_wp2_with (first | (refine ld25 rfl rfl rfl mz.o ?_) | (refine sto25 rfl rfl rfl rfl mx.o rfl ?_))
            intro w9 o9' s9
            replace mx : Mz G7 A3 n3 c3 E3 q3 f3 Y LY w9 := ⟨o9', mz.z.st mx.o s9⟩
            replace hb := s9.below hb hG7
            have HML := HXL
            clear mz o9' s9
            have hg1 := get_lit mx.z HML.out ask
            unfold GetIs at hg1
            go_wp2_with (refine ld25 rfl rfl rfl mx.o ?_)
            refine hg1.mono ?_
            clear hg1
            rintro e w21 ⟨he, hx⟩
            replace mx := mx.below hx
            replace hb := hb.trans (hx.mono hb.size)
            clear hx
            have hg2 := rget_lit mx.z HML.out ask
            unfold GetIs at hg2
            obtain ⟨sv1, kv1, hv⟩ : ∃ (s : ByteArray) (k : Int), (if 0 ≤ ask ∧ ask < (Y.B.length : Int) then Value.tuple #[.string (Dm.getM Y.B Y.P ask.toNat), .int .i64 0] else Value.tuple #[.string ⟨#[]⟩, .int .i64 2]) = .tuple #[.string s, .int .i64 k] := by
              by_cases hq : 0 ≤ ask ∧ ask < (Y.B.length : Int)
              · exact ⟨_, _, if_pos hq⟩
              · exact ⟨_, _, if_neg hq⟩
            rw [hv] at he hg2
            subst he
            clear hv
            go_wp2_with (refine ld25 rfl rfl rfl mx.o ?_)
            refine hg2.mono ?_
            clear hg2
            rintro e w22 ⟨rfl, hx⟩
            replace mx := mx.below hx
            replace hb := hb.trans (hx.mono hb.size)
            clear hx
            have tk : ((kv1 : Int) != (kv1 : Int)) = false := by simp
            have ts := str_yes (rfl : sv1 = sv1)
            go_wp2_with fail
            go_roundw
            case rel => exact ⟨q + 1, _, _, _, _, _, _, Y, by omega, by go_num, by rw [HML.out]; exact mx, hb, (HYO.out (by first | rfl | trivial)).1, by have := (HYO.out (by first | rfl | trivial)).2; omega⟩
            case measure => simp [intOf]; omega
          · have hk1 : (kk == 0) = false := by simp [hk0]
            clear HYO
            have hg1 := get_lit mx.z HML.out ask
            unfold GetIs at hg1
            go_wp2_with (refine ld25 rfl rfl rfl mx.o ?_)
            refine hg1.mono ?_
            clear hg1
            rintro e w21 ⟨he, hx⟩
            replace mx := mx.below hx
            replace hb := hb.trans (hx.mono hb.size)
            clear hx
            have hg2 := rget_lit mx.z HML.out ask
            unfold GetIs at hg2
            obtain ⟨sv1, kv1, hv⟩ : ∃ (s : ByteArray) (k : Int), (if 0 ≤ ask ∧ ask < (X.B.length : Int) then Value.tuple #[.string (Dm.getM X.B X.P ask.toNat), .int .i64 0] else Value.tuple #[.string ⟨#[]⟩, .int .i64 2]) = .tuple #[.string s, .int .i64 k] := by
              by_cases hq : 0 ≤ ask ∧ ask < (X.B.length : Int)
              · exact ⟨_, _, if_pos hq⟩
              · exact ⟨_, _, if_neg hq⟩
            rw [hv] at he hg2
            subst he
            clear hv
            go_wp2_with (refine ld25 rfl rfl rfl mx.o ?_)
            refine hg2.mono ?_
            clear hg2
            rintro e w22 ⟨rfl, hx⟩
            replace mx := mx.below hx
            replace hb := hb.trans (hx.mono hb.size)
            clear hx
            have tk : ((kv1 : Int) != (kv1 : Int)) = false := by simp
            have ts := str_yes (rfl : sv1 = sv1)
            go_wp2_with fail
            go_roundw
            case rel => exact ⟨q + 1, _, _, _, _, _, _, X, by omega, by go_num, by rw [HML.out]; exact mx, hb, HXO.out, by have := HXP.out; omega⟩
            case measure => simp [intOf]; omega
        have hk1' : (kind == 1) = false := by simp [hk1]
        by_cases hk2 : kind = 2
        · subst hk2
          have hI0 := HAO.out.z.below hb
          have HIZ := Lib.hid hI0
          clear hI0
          obtain ⟨Y, hY⟩ : ∃ Y, Dm.crashed X pK = Y := ⟨_, rfl⟩
          have HYO := Lib.hid (show (0 : Int) = 0 → Dm.Ok Y ∧ Y.P.length ≤ 60 + q + 1 from fun _ => ⟨by rw [← hY]; exact HXO.out.crashed pK, by rw [← hY]; show ([] : List Dm.Wr).length ≤ _; simp⟩)
          have HXL := Lib.hid (show Y.left = -1 by rw [← hY]; rfl)
          have hS : Sx G7 G9 A1 n1 c1 E1 q1 f1 LX pA pn pc w wc := ⟨⟨mx.o.cell 0, mx.o.cell 1, mx.o.cell 2⟩, o9.cell 3, hb⟩
          go_upto_region 19 with fail
          refine wp_region_held_drew (S := Sx G7 G9 A1 n1 c1 E1 q1 f1 LX pA pn pc w) (by kernel_rfl) hS.drew (fun hHeld => ?_)
          clear hS
          replace mx := mx.drew
          replace hb := hb.drew
          replace oy := Own.dr oy (Dr.refl wc).drew
          replace oq := Own.dr oq (Dr.refl wc).drew
          replace o9 := Own.dr o9 (Dr.refl wc).drew
          generalize wc.drew = V0 at *
          refine wpAnyH_take (i := 0) (oi := { dst := some 88, op := Op.load 25 (Operand.tmp 7), type := _, pos := _, after := _, guard := _ }) (v := ?_) rfl (by kernel_rfl) (by kernel_rfl) (by kernel_rfl) (fun _ _ _ h => h) (Or.inl ⟨by rfl, ?_⟩) hHeld ?_
          rotate_left
          · intro wq hSw
            obtain ⟨⟨r0, r1, r2⟩, r3⟩ := hSw
            go_simp
            rfl
          try simp only [Act.put, List.setIfInBounds_toArray, List.set_cons_zero, List.set_cons_succ]
          refine wpAnyH_take (i := 1) (oi := { dst := some 89, op := Op.fieldAddr 37 (Operand.tmp 9) 3, type := _, pos := _, after := _, guard := _ }) (v := ?_) rfl (by kernel_rfl) (by kernel_rfl) (by kernel_rfl) (fun _ _ _ h => h) (Or.inl ⟨by rfl, ?_⟩) hHeld ?_
          rotate_left
          · intro wq hSw
            go_simp
            rfl
          try simp only [Act.put, List.setIfInBounds_toArray, List.set_cons_zero, List.set_cons_succ]
          refine wpAnyH_take (i := 2) (oi := { dst := some 90, op := Op.load 35 (Operand.tmp 89), type := _, pos := _, after := _, guard := _ }) (v := ?_) rfl (by kernel_rfl) (by kernel_rfl) (by kernel_rfl) (fun _ _ _ h => h) (Or.inl ⟨by rfl, ?_⟩) hHeld ?_
          rotate_left
          · intro wq hSw
            obtain ⟨⟨r0, r1, r2⟩, r3⟩ := hSw
            go_simp
            rfl
          try simp only [Act.put, List.setIfInBounds_toArray, List.set_cons_zero, List.set_cons_succ]
          refine wpAnyH_take (i := 4) (oi := { dst := some 92, op := Op.load 25 (Operand.tmp 7), type := _, pos := _, after := _, guard := _ }) (v := ?_) rfl (by kernel_rfl) (by kernel_rfl) (by kernel_rfl) (fun _ _ _ h => h) (Or.inl ⟨by rfl, ?_⟩) hHeld ?_
          rotate_left
          · intro wq hSw
            obtain ⟨⟨r0, r1, r2⟩, r3⟩ := hSw
            go_simp
            rfl
          try simp only [Act.put, List.setIfInBounds_toArray, List.set_cons_zero, List.set_cons_succ]
          refine wpAnyH_take (i := 5) (oi := { dst := some 93, op := Op.fieldAddr 37 (Operand.tmp 9) 3, type := _, pos := _, after := _, guard := _ }) (v := ?_) rfl (by kernel_rfl) (by kernel_rfl) (by kernel_rfl) (fun _ _ _ h => h) (Or.inl ⟨by rfl, ?_⟩) hHeld ?_
          rotate_left
          · intro wq hSw
            go_simp
            rfl
          try simp only [Act.put, List.setIfInBounds_toArray, List.set_cons_zero, List.set_cons_succ]
          refine wpAnyH_take (i := 6) (oi := { dst := some 94, op := Op.load 35 (Operand.tmp 93), type := _, pos := _, after := _, guard := _ }) (v := ?_) rfl (by kernel_rfl) (by kernel_rfl) (by kernel_rfl) (fun _ _ _ h => h) (Or.inl ⟨by rfl, ?_⟩) hHeld ?_
          rotate_left
          · intro wq hSw
            obtain ⟨⟨r0, r1, r2⟩, r3⟩ := hSw
            go_simp
            rfl
          try simp only [Act.put, List.setIfInBounds_toArray, List.set_cons_zero, List.set_cons_succ]
          refine wpAnyH_ready (rs := [3]) (by kernel_rfl) (by simp) ?_
          refine AllReadyH.cons (o := { dst := some 91, op := Op.call { callee := Callee.value (Operand.func 20), args := #[Operand.tmp 88, Operand.tmp 90], argTypes := #[25, 35] }, type := _, pos := _, after := _, guard := _ }) rfl (fun KK hKK => ?_) AllReadyH.nil
          have hKS := Lib.hid hKK
          clear hKK
          have hI := HAO.out.z.below hb
          have hc1 := crash_lit (ec := pc) mx.z HML.out hI HXO.out
          go_simp
          refine hc1.mono ?_
          clear hc1 hI
          unfold CrashIs
          rw [hY]
          rintro e w3 ⟨⟨A2, n2, c2, rfl, z2⟩, hx⟩
          go_wp2_with fail
          replace mx := mx.below hx
          replace hb := hb.trans (hx.mono hb.size)
          replace o9 := o9.below hx
          replace oy := oy.below hx
          replace oq := oq.below hx
          have hS2 := hHeld.below hx
          refine hKS.out.out _ _ hS2 (fun hHeld => ?_)
          clear hKS KK hx hS2
          try simp only [Act.put, List.setIfInBounds_toArray, List.set_cons_zero, List.set_cons_succ]
          refine wpAnyH_ready (rs := [7]) (by kernel_rfl) (by simp) ?_
          refine AllReadyH.cons (o := { dst := some 95, op := Op.call { callee := Callee.value (Operand.func 21), args := #[Operand.tmp 92, Operand.tmp 94], argTypes := #[25, 35] }, type := _, pos := _, after := _, guard := _ }) rfl (fun KK hKK => ?_) AllReadyH.nil
          have hKS := Lib.hid hKK
          clear hKK
          have hI := HAO.out.z.below hb
          have hc1 := rcrash_lit (ec := pc) mx.z HML.out hI HXO.out
          go_simp
          refine hc1.mono ?_
          clear hc1 hI
          unfold CrashIs
          rw [hY]
          rintro e w7 ⟨⟨A3, n3, c3, rfl, z3⟩, hx⟩
          go_wp2_with fail
          replace mx := mx.below hx
          replace hb := hb.trans (hx.mono hb.size)
          replace o9 := o9.below hx
          replace oy := oy.below hx
          replace oq := oq.below hx
          replace z2 := z2.below hx
          have hS2 := hHeld.below hx
          refine hKS.out.out _ _ hS2 (fun hHeld => ?_)
          clear hKS KK hx hS2
          try simp only [Act.put, List.setIfInBounds_toArray, List.set_cons_zero, List.set_cons_succ]
          refine wpAnyH_ready (rs := [8]) (by kernel_rfl) (by simp) ?_
          refine AllReadyH.cons (o := { dst := none, op := Op.store 25 (Operand.tmp 10) (Operand.tmp 91), type := _, pos := _, after := _, guard := _ }) rfl (fun KK hKK => ?_) AllReadyH.nil
          have hKS := Lib.hid hKK
          clear hKK
          have s7 := St.row w7 Gy (dv A2 n2 c2 none 0 0 (-1))
          have o7 : Nm.Own (w7.setRow Gy (dv A2 n2 c2 none 0 0 (-1))) Gy 25 (dv A2 n2 c2 none 0 0 (-1)) := setRow_heap w7 Gy _ _ 25 (0, 0) oy
          have m7 : Mz Gy A2 n2 c2 none 0 0 Y (-1) (w7.setRow Gy (dv A2 n2 c2 none 0 0 (-1))) := ⟨o7, z2.st oy s7⟩
          have mx2 : Mz G7 A1 n1 c1 E1 q1 f1 X LX (w7.setRow Gy (dv A2 n2 c2 none 0 0 (-1))) := ⟨s7.own mx.o h7y, mx.z.st oy s7⟩
          have hb2 := s7.below hb hGy
          have oq2 := s7.own oq (fun e => hyz e.symm)
          have z32 := z3.st oy s7
          have o92 := s7.own o9 h9y
          have hS2 := hHeld.st s7 h7y h9y hGy
          refine st25 (A := A2) (n := n2) (c := c2) (A' := none) (m := 0) (c' := 0) (l := -1) rfl (.tmp 10) (.tmp 91) rfl (by simp [Act.eval, Act.put]) (by simp [Act.eval, Act.put]) oy rfl ?_
          refine hKS.out.out _ _ hS2 (fun hHeld => ?_)
          clear hKS KK hS2
          clear mx hb oq z3 o9 oy z2
          have mx := mx2
          have hb := hb2
          have oq := oq2
          have z3 := z32
          have o9 := o92
          have my := m7
          clear mx2 hb2 o7 s7 oq2 z32 o92
          clear m7
          generalize w7.setRow Gy (dv A2 n2 c2 none 0 0 (-1)) = W8 at *
          try simp only [Act.put, List.setIfInBounds_toArray, List.set_cons_zero, List.set_cons_succ]
          refine wpAnyH_ready (rs := [9]) (by kernel_rfl) (by simp) ?_
          refine AllReadyH.cons (o := { dst := none, op := Op.store 25 (Operand.tmp 11) (Operand.tmp 95), type := _, pos := _, after := _, guard := _ }) rfl (fun KK hKK => ?_) AllReadyH.nil
          have hKS := Lib.hid hKK
          clear hKK
          have s7 := St.row W8 Gz (dv A3 n3 c3 none 0 0 (-1))
          have o7 : Nm.Own (W8.setRow Gz (dv A3 n3 c3 none 0 0 (-1))) Gz 25 (dv A3 n3 c3 none 0 0 (-1)) := setRow_heap W8 Gz _ _ 25 (0, 0) oq
          have m7 : Mz Gz A3 n3 c3 none 0 0 Y (-1) (W8.setRow Gz (dv A3 n3 c3 none 0 0 (-1))) := ⟨o7, z3.st oq s7⟩
          have mx2 : Mz G7 A1 n1 c1 E1 q1 f1 X LX (W8.setRow Gz (dv A3 n3 c3 none 0 0 (-1))) := ⟨s7.own mx.o h7z, mx.z.st oq s7⟩
          have hb2 := s7.below hb hGz
          have my2 : Mz Gy A2 n2 c2 none 0 0 Y (-1) (W8.setRow Gz (dv A3 n3 c3 none 0 0 (-1))) := ⟨s7.own my.o hyz, my.z.st oq s7⟩
          have hS2 := hHeld.st s7 h7z h9z hGz
          refine st25 (A := A3) (n := n3) (c := c3) (A' := none) (m := 0) (c' := 0) (l := -1) rfl (.tmp 11) (.tmp 95) rfl (by simp [Act.eval, Act.put]) (by simp [Act.eval, Act.put]) oq rfl ?_
          refine hKS.out.out _ _ hS2 (fun hHeld => ?_)
          clear hKS KK hS2
          clear mx hb my oq z3
          have mx := mx2
          have hb := hb2
          have my := my2
          have mz := m7
          clear mx2 hb2 o7 s7 my2
          clear m7
          generalize W8.setRow Gz (dv A3 n3 c3 none 0 0 (-1)) = W9 at *
          try simp only [Act.put, List.setIfInBounds_toArray, List.set_cons_zero, List.set_cons_succ]
          refine wpAnyH_done (by kernel_rfl) ?_ _
          have hsm := same_lit my.z mz.z HXL.out
          have d0 := my.o.cell 0
          have d1 := my.o.cell 1
          have d2 := my.o.cell 2
          have e0 := mz.o.cell 0
          have e1 := mz.o.cell 1
          have e2 := mz.o.cell 2
          simp only [List.getElem?_toArray, List.getElem?_cons_zero, List.getElem?_cons_succ] at d0 d1 d2 e0 e1 e2
          have tk : ((0 : Int) != (0 : Int)) = false := by simp
          go_wp2_with fail
          refine hsm.mono ?_
          clear hsm d0 d1 d2 e0 e1 e2 tk
          rintro e w20 ⟨rfl, hx⟩
          replace mx := mx.below hx
          replace mz := mz.below hx
          replace hb := hb.trans (hx.mono hb.size)
          clear my hx
          go_wp2_with (first | (refine ld25 rfl rfl rfl mz.o ?_) | (refine sto25 rfl rfl rfl rfl mx.o rfl ?_))
          intro w9 o9' s9
          replace mx : Mz G7 A3 n3 c3 none 0 0 Y (-1) w9 := ⟨o9', mz.z.st mx.o s9⟩
          replace hb := s9.below hb hG7
          have HML := HXL
          clear mz o9' s9
          have hg1 := get_lit mx.z HML.out ask
          unfold GetIs at hg1
          go_wp2_with (refine ld25 rfl rfl rfl mx.o ?_)
          refine hg1.mono ?_
          clear hg1
          rintro e w21 ⟨he, hx⟩
          replace mx := mx.below hx
          replace hb := hb.trans (hx.mono hb.size)
          clear hx
          have hg2 := rget_lit mx.z HML.out ask
          unfold GetIs at hg2
          obtain ⟨sv1, kv1, hv⟩ : ∃ (s : ByteArray) (k : Int), (if 0 ≤ ask ∧ ask < (Y.B.length : Int) then Value.tuple #[.string (Dm.getM Y.B Y.P ask.toNat), .int .i64 0] else Value.tuple #[.string ⟨#[]⟩, .int .i64 2]) = .tuple #[.string s, .int .i64 k] := by
            by_cases hq : 0 ≤ ask ∧ ask < (Y.B.length : Int)
            · exact ⟨_, _, if_pos hq⟩
            · exact ⟨_, _, if_neg hq⟩
          rw [hv] at he hg2
          subst he
          clear hv
          go_wp2_with (refine ld25 rfl rfl rfl mx.o ?_)
          refine hg2.mono ?_
          clear hg2
          rintro e w22 ⟨rfl, hx⟩
          replace mx := mx.below hx
          replace hb := hb.trans (hx.mono hb.size)
          clear hx
          have tk : ((kv1 : Int) != (kv1 : Int)) = false := by simp
          have ts := str_yes (rfl : sv1 = sv1)
          go_wp2_with fail
          go_roundw
          case rel => exact ⟨q + 1, _, _, _, _, _, _, Y, by omega, by go_num, by rw [HML.out]; exact mx, hb, (HYO.out (by first | rfl | trivial)).1, by have := (HYO.out (by first | rfl | trivial)).2; omega⟩
          case measure => simp [intOf]; omega
        have hk2' : (kind == 2) = false := by simp [hk2]
        have my : Mz Gy A1 n1 c1 E1 q1 f1 X LX wc := ⟨oy, mx.z⟩
        have mz : Mz Gz A1 n1 c1 E1 q1 f1 X LX wc := ⟨oq, mx.z⟩
        have HXL := HML
        have HYO := Lib.hid (show (0 : Int) = 0 → Dm.Ok X ∧ X.P.length ≤ 60 + q + 1 from fun _ => ⟨HXO.out, by have := HXP.out; omega⟩)
        clear oy oq o9
        have hsm := same_lit my.z mz.z HXL.out
        have d0 := my.o.cell 0
        have d1 := my.o.cell 1
        have d2 := my.o.cell 2
        have e0 := mz.o.cell 0
        have e1 := mz.o.cell 1
        have e2 := mz.o.cell 2
        simp only [List.getElem?_toArray, List.getElem?_cons_zero, List.getElem?_cons_succ] at d0 d1 d2 e0 e1 e2
        have tk : ((0 : Int) != (0 : Int)) = false := by simp
        go_wp2_with fail
        refine hsm.mono ?_
        clear hsm d0 d1 d2 e0 e1 e2 tk
        rintro e w20 ⟨rfl, hx⟩
        replace mx := mx.below hx
        replace mz := mz.below hx
        replace hb := hb.trans (hx.mono hb.size)
        clear my hx
        go_wp2_with (first | (refine ld25 rfl rfl rfl mz.o ?_) | (refine sto25 rfl rfl rfl rfl mx.o rfl ?_))
        intro w9 o9' s9
        replace mx : Mz G7 A1 n1 c1 E1 q1 f1 X LX w9 := ⟨o9', mz.z.st mx.o s9⟩
        replace hb := s9.below hb hG7
        have HML := HXL
        clear mz o9' s9
        have hg1 := get_lit mx.z HML.out ask
        unfold GetIs at hg1
        go_wp2_with (refine ld25 rfl rfl rfl mx.o ?_)
        refine hg1.mono ?_
        clear hg1
        rintro e w21 ⟨he, hx⟩
        replace mx := mx.below hx
        replace hb := hb.trans (hx.mono hb.size)
        clear hx
        have hg2 := rget_lit mx.z HML.out ask
        unfold GetIs at hg2
        obtain ⟨sv1, kv1, hv⟩ : ∃ (s : ByteArray) (k : Int), (if 0 ≤ ask ∧ ask < (X.B.length : Int) then Value.tuple #[.string (Dm.getM X.B X.P ask.toNat), .int .i64 0] else Value.tuple #[.string ⟨#[]⟩, .int .i64 2]) = .tuple #[.string s, .int .i64 k] := by
          by_cases hq : 0 ≤ ask ∧ ask < (X.B.length : Int)
          · exact ⟨_, _, if_pos hq⟩
          · exact ⟨_, _, if_neg hq⟩
        rw [hv] at he hg2
        subst he
        clear hv
        go_wp2_with (refine ld25 rfl rfl rfl mx.o ?_)
        refine hg2.mono ?_
        clear hg2
        rintro e w22 ⟨rfl, hx⟩
        replace mx := mx.below hx
        replace hb := hb.trans (hx.mono hb.size)
        clear hx
        have tk : ((kv1 : Int) != (kv1 : Int)) = false := by simp
        have ts := str_yes (rfl : sv1 = sv1)
        go_wp2_with fail
        go_roundw
        case rel => exact ⟨q + 1, _, _, _, _, _, _, X, by omega, by go_num, by rw [HML.out]; exact mx, hb, (HYO.out (by first | rfl | trivial)).1, by have := (HYO.out (by first | rfl | trivial)).2; omega⟩
        case measure => simp [intOf]; omega
    · obtain rfl : q = e := by omega
      go_wp2_with fail
      refine (fixed_any _).mono ?_
      rintro e w6 ⟨rfl, hx6⟩
      go_wp2_with fail
      go_ret
      exact ⟨rfl, hb.trans (hx6.mono hb.size)⟩

set_option maxRecDepth 100000 in
theorem lifted (os : Os) (started : os.Started) (H : Type) (enc : TypeId × Value → H) :
    ReturnsInHanded {} Try.checked os 4 .any (Rows.drivePlaysSpec.pre6 enc Try.prog Try.f4 Rows.drivePlaysRow.domain false) (Rows.drivePlaysSpec.post enc Try.prog Try.f4 false true false false) := by
  refine returnsInHanded_of_change (C := Try.checked) own started (by kernel_rfl) Try.func4
    (ChangeSpec.witness6 (enc := enc) (C := Try.checked) false ⟨#[], #[.agg #[.slice none 0 0, .slice none 0 0, .int .i64 0], .slice none 0 0, .int .i64 0], []⟩ 8 (by kernel_rfl) (by kernel_rfl) (by kernel_rfl) (by kernel_rfl)) ?_
  intro W base args ds gs before hval0 hW hcnd _
  have hval : ∀ (j : Nat) t v, Try.f4.params[j]? = some t → args[j]? = some v → Value.okWide Try.prog W .any base t v := hval0
  have hW' := hW
  obtain ⟨p, q, hA0, hV, rfl, hfz, hnd⟩ := hW
  have hA : DataW.TrodAll enc Try.prog W 0 (fun _ => true) true Try.f4.params.toList args.toList ds p := hA0
  rw [Try.params4] at hA hval
  obtain ⟨v0, vs0, d0, ds0, p0, q0, hargs, rfl, rfl, h0, r0⟩ := trodAll_cons hA
  obtain ⟨v1, vs1, d1, ds1, p1, q1, rfl, rfl, rfl, h1, r1⟩ := trodAll_cons r0
  obtain ⟨v2, vs2, d2, ds2, p2, q2, rfl, rfl, rfl, h2, r2⟩ := trodAll_cons r1
  obtain ⟨rfl, rfl, rfl⟩ := trodAll_nil r2
  obtain rfl : args = #[v0, v1, v2] := by cases args; simp_all
  obtain ⟨rfl, rfl⟩ := trodVars_none hV
  obtain ⟨A0, n0, c0, E0, m0, f0, x0, rfl, y0⟩ := okDrive (hval 0 25 v0 rfl rfl) h0
  have k0 := h0
  have lt0 : ∀ x ∈ p0, x.block < W.heap.size := by obtain ⟨m, hm⟩ := k0; exact DataW.trod_lt m _ _ _ hm
  obtain ⟨A1, n1, c1, l1, rfl, y1⟩ := okActs (hval 1 34 v1 rfl rfl) h1
  have k1 := h1
  have lt1 : ∀ x ∈ p1, x.block < W.heap.size := by obtain ⟨m, hm⟩ := k1; exact DataW.trod_lt m _ _ _ hm
  obtain ⟨n2, rfl, rfl, rfl, w2⟩ := open_int Try.underlying3 (hval 2 3 v2 rfl rfl) h2
  clear hA0 hval0
  refine (walk A0 n0 c0 E0 m0 f0 x0 A1 n1 c1 l1 n2 (wf_i64' w2) W y0 y1).mono fun e W' ⟨he, bel⟩ => ?_
  subst he
  exact ⟨_, rfl, _, _, _, [], _, [], hW', trodAll_mk1 (shut_bool Try.underlying4 _), (trodAll_cons_mk (Below.trod laidOut (by kernel_rfl) (of_decide_eq_true (by kernel_rfl)) k0 bel lt0) (trodAll_cons_mk (Below.trod laidOut (by kernel_rfl) (of_decide_eq_true (by kernel_rfl)) k1 bel lt1) (trodAll_cons_mk (shut_int Try.underlying3 w2) trodAll_mk0))), rfl, bel.frame _, fun h => by cases h⟩

theorem over : Rows.drivePlaysRow.holds Try.pinned (OpenSpec.ofChange Rows.drivePlaysSpec) :=
  OpenClaim.holds_of_wide 4 Try.f4 rfl rfl rfl rfl rfl rfl rfl ⟨rfl, rfl, rfl, rfl, rfl⟩ rfl rfl rfl rfl rfl (by kernel_rfl) Try.func4 (by kernel_rfl)
    (of_decide_eq_true (by kernel_rfl)) (by unfold Func.isWrapper; first | (rw [if_pos (by decide +kernel)]; kernel_rfl) | (rw [if_neg (by decide +kernel)]; exact ⟨rfl, rfl⟩))
    (fun os started H enc _ => lifted os started H enc)

/-- the statement -/
theorem proved : Rows.DrivePlaysSaid := over
end Go.Proofs.Ytmolbliooaofbaa.drivePlays
