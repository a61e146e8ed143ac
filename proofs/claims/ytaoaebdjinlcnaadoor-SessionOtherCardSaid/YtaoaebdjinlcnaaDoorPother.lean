/-
  For every two ends and all data: SessionOther answers true (what one end sends no end of another machine takes, nor one with another key, where the document doesn't take it), and the arguments read behind the call as they read before; the package variables are laid by the program's own text.
-/
import Derived.Test.YtaoaebdjinlcnaaDoorRows
import Derived.Test.YtaoaebdjinlcnaaDoorCards
import Derived.Test.YtaoaebdjinlcnaaDoorTie
import Derived.Test.YtaoaebdjinlcnaaDoorVk
import Derived.Test.YtaoaebdjinlcnaaDoorLa
import Derived.WalkKit
import Derived.ProofKit
import Derived.LaidMore
import Derived.OpenShut
import Derived.ShutString
import Derived.Stop.Joined
namespace Go.Proofs.YtaoaebdjinlcnaaDoor.sessionOther
open Go.ChangeShapes Go.WideShapes Go.ChangeAt Go.RowKit
open Go.ChangeMaps (open_string shut_string)
set_option linter.unusedVariables false
set_option linter.unusedSimpArgs false

theorem own : ownKnob Tryd.prog.godebug = none := by kernel_rfl
theorem door_met (os : Os) (args : Array Value) : laidMetH Tryd.prog lay2 ((World.doorLaid Tryd.prog 400 os).forCall (fun _ _ => 0) ⟨#[], args, []⟩).memory :=
  laidMetH_of_parts3 (fuel := 8) (laidMet_of_run' 8 (by kernel_rfl) (by kernel_rfl)) (by kernel_rfl) (by kernel_rfl)
theorem bld26zw {ops : Array Oper} {rest : List Oper} {o : Oper} {a : Act} {w : World} {Q : Exit → Act → World → Prop}
    (hgd : Region.wanted o (yielded ops a.tmps) = true) (ho : o.op = .build 26 #[]) (h : wpList Tryd.prog ops Q rest (a.put o.dst (.agg (chv zCh))) w) : wpList Tryd.prog ops Q (o :: rest) a w := wanted_step hgd (by
  have hb := run_build (P := Tryd.prog) w 26 #[] (chv zCh) built26z
  unfold Oper.wp execOp
  simp only [ho]
  simp [hb, Result.andThen]
  exact h)
set_option maxRecDepth 100000 in
set_option maxHeartbeats 8000000 in
theorem walk (c o : Ch) (d : ByteArray) (hc : c.Ok) (ho : o.Ok) (wf : d.size ≤ maxLen) (w : World) (hT : Tab w) :
    Calls Tryd.prog 9 #[.agg (chv c), .agg (chv o), .string d] w fun e w' => e = .returned (.bool true) ∧ Below w.heap.size w w' := by
  have hfx := fun wr (h : Below w.heap.size w wr) => fixed_any wr (hT.below h)
  have k0 := (Cb.new w c hc.k).alloc (Obj.cells (chv o) 26)
  have o0 : Cb ((w.alloc (Obj.cells (chv c) 26)).alloc (Obj.cells (chv o) 26)) (w.heap.size + 1) o := by
    have := Cb.new (w.alloc (Obj.cells (chv c) 26)) o ho.k
    rwa [World.size_alloc] at this
  have b0 : Below w.heap.size w ((w.alloc (Obj.cells (chv c) 26)).alloc (Obj.cells (chv o) 26)) := (grow w _).alloc (by simp) _
  go_enter Tryd.func9, Tryd.ntmps9
  go_upto_region 1 with fail
  generalize (w.alloc (Obj.cells (chv c) 26)).alloc (Obj.cells (chv o) 26) = W0 at *
  have c0 := k0.c0
  have c1 := k0.c1
  have p0 := o0.c0
  have p1 := o0.c1
  by_cases hbig : 100 < c.m.size ∨ 100 < o.m.size ∨ 100 < d.size
  · have dd : 100 < (c.m.size : Int) ∨ (¬ 100 < (c.m.size : Int) ∧ 100 < (o.m.size : Int)) ∨ (¬ 100 < (c.m.size : Int) ∧ ¬ 100 < (o.m.size : Int) ∧ 100 < (d.size : Int)) := by omega
    rcases dd with d0 | ⟨d0, d1⟩ | ⟨d0, d1, d2⟩ <;>
    · go_wp2_with fail
      refine (hfx _ b0).mono ?_
      rintro e w1 ⟨rfl, hx⟩
      replace b0 := b0.trans (hx.mono b0.size)
      go_wp2_with fail
      go_ret
      exact ⟨rfl, b0⟩
  · have d0 : ¬ 100 < (c.m.size : Int) := by omega
    have d1 : ¬ 100 < (o.m.size : Int) := by omega
    have d2 : ¬ 100 < (d.size : Int) := by omega
    have hs := fun wr (h : Below w.heap.size w wr) => send_any c d wr hc (hT.below h) (by omega) (by omega)
    by_cases hmax : c.n = 18446744073709551615
    · rw [show sendR c d = bad 2 by unfold sendR; rw [if_neg (by omega), if_pos hmax]] at hs
      have z2 : (bad 2).2.1.size = 0 := rfl
      have hr := fun (o' : Ch) (h' : o'.Ok) (hm : o'.m.size ≤ 100) wr => rstake_any o' ⟨#[]⟩ wr h' (by omega) (by decide)
      clear hmax z2
      go_wp2_with (first | refine ld26 rfl rfl rfl k0 ?_ | refine ldk rfl rfl rfl k0 ?_ | refine ld26 rfl rfl rfl o0 ?_ | refine ldk rfl rfl rfl o0 ?_)
      refine (hs _ b0).mono ?_
      rintro e V1 ⟨rfl, hx⟩
      replace k0 := k0.below hx
      replace o0 := o0.below hx
      replace c0 := cell_below c0 hx
      replace c1 := cell_below c1 hx
      replace p0 := cell_below p0 hx
      replace p1 := cell_below p1 hx
      replace b0 := b0.trans (hx.mono b0.size)
      clear hx
      try dsimp only [rsv, bad]
      have hx := grow V1 (Obj.cells (chv zCh) 26)
      have x1 := Cb.new V1 zCh zCh_ok.k
      replace k0 := k0.below hx
      replace o0 := o0.below hx
      replace c0 := cell_below c0 hx
      replace c1 := cell_below c1 hx
      replace p0 := cell_below p0 hx
      replace p1 := cell_below p1 hx
      replace b0 := b0.trans (hx.mono b0.size)
      clear hx
      go_upto_region 4 with (first | refine sto26n (d := zCh) zCh_ok.k rfl rfl rfl rfl rfl ?_ | refine ld26 rfl rfl rfl k0 ?_ | refine ldk rfl rfl rfl k0 ?_ | refine ld26 rfl rfl rfl o0 ?_ | refine ldk rfl rfl rfl o0 ?_ | refine ld26 rfl rfl rfl x1 ?_ | refine ldk rfl rfl rfl x1 ?_)
      generalize V1.alloc (Obj.cells (chv zCh) 26) = V2 at *
      clear x1
      have ol := o0.lt
      have kl := k0.lt
      have pf : V2.frozen? ⟨w.heap.size + 1, 1, none⟩ = false := o0.o.frozen 1
      have k1 := k0.other ⟨w.heap.size + 1, 1, none⟩ (.int .u64 (c.n : Int)) (by simp)
      have o1 := o0.setN c.n
      have b1 : Below w.heap.size w (V2.setCell ⟨w.heap.size + 1, 1, none⟩ (.int .u64 (c.n : Int))) := b0.setCell (p := ⟨w.heap.size + 1, 1, none⟩) (by simp) _
      clear k0 o0 b0 c0 p0
      go_wp2_with (first | refine ld26 rfl rfl rfl o1 ?_)
      clear c1 pf p1
      generalize V2.setCell ⟨w.heap.size + 1, 1, none⟩ (.int .u64 (c.n : Int)) = Y0 at *
      refine (hr ⟨o.m, c.n, o.K⟩ ⟨hc.n, ho.k, ho.b⟩ (by show o.m.size ≤ _; omega) _).mono ?_
      rintro e w1 ⟨rfl, hx⟩
      replace b1 := b1.trans (hx.mono b1.size)
      have hX := takeR_ok (show (⟨o.m, c.n, o.K⟩ : Ch).Ok from ⟨hc.n, ho.k, ho.b⟩) ⟨#[]⟩
      generalize takeR ⟨o.m, c.n, o.K⟩ ⟨#[]⟩ = X at *
      obtain ⟨X1, X2, X3⟩ := X
      dsimp only at hX
      have b2 := b1.trans ((grow w1 (Obj.cells (chv X1) 26)).mono b1.size)
      dsimp only [rsv]
      go_wp2_with (first | refine sto26n (d := X1) hX rfl rfl rfl rfl rfl ?_)
      refine (hfx _ b2).mono ?_
      rintro e w2 ⟨rfl, hx⟩
      replace b2 := b2.trans (hx.mono b2.size)
      go_wp2_with fail
      go_ret
      exact ⟨rfl, b2⟩
    · have hn1 : c.n + 1 < 18446744073709551616 := by have := hc.n; omega
      rw [show sendR c d = (ahead c 1, frameD c d, 0) from send_ok c d (by omega) (by omega)] at hs
      have zf := frame_size c d (by omega) (by omega)
      have hO : (⟨o.m, c.n, o.K⟩ : Ch).Ok := ⟨hc.n, ho.k, ho.b⟩
      have hr := fun wr => rstake_any ⟨o.m, c.n, o.K⟩ (frameD c d) wr hO (by show o.m.size ≤ _; omega) (by omega)
      have ht := fun wr (h : Below w.heap.size w wr) => stake_any ⟨o.m, c.n, o.K⟩ (frameD c d) wr hO (hT.below h) (by show o.m.size ≤ _; omega) (by omega)
      have hX := takeR_ok hO (frameD c d)
      have hw := take_other ⟨o.m, c.n, o.K⟩ c d (by omega) (by omega) (by omega) rfl
      have h1 := (ahead_ok hc 1 (by omega)).k
      generalize takeR ⟨o.m, c.n, o.K⟩ (frameD c d) = X at *
      obtain ⟨X1, X2, X3⟩ := X
      dsimp only at hX hw
      generalize ahead c 1 = C1 at *
      generalize frameD c d = F at *
      clear zf
      go_wp2_with (first | refine ld26 rfl rfl rfl k0 ?_ | refine ldk rfl rfl rfl k0 ?_ | refine ld26 rfl rfl rfl o0 ?_ | refine ldk rfl rfl rfl o0 ?_)
      refine (hs _ b0).mono ?_
      rintro e V1 ⟨rfl, hx⟩
      replace k0 := k0.below hx
      replace o0 := o0.below hx
      replace c0 := cell_below c0 hx
      replace c1 := cell_below c1 hx
      replace p0 := cell_below p0 hx
      replace p1 := cell_below p1 hx
      replace b0 := b0.trans (hx.mono b0.size)
      clear hx
      try dsimp only [rsv, bad]
      have hx := grow V1 (Obj.cells (chv C1) 26)
      have x1 := Cb.new V1 C1 h1
      replace k0 := k0.below hx
      replace o0 := o0.below hx
      replace c0 := cell_below c0 hx
      replace c1 := cell_below c1 hx
      replace p0 := cell_below p0 hx
      replace p1 := cell_below p1 hx
      replace b0 := b0.trans (hx.mono b0.size)
      clear hx
      go_upto_region 4 with (first | refine sto26n (d := C1) h1 rfl rfl rfl rfl rfl ?_ | refine ld26 rfl rfl rfl k0 ?_ | refine ldk rfl rfl rfl k0 ?_ | refine ld26 rfl rfl rfl o0 ?_ | refine ldk rfl rfl rfl o0 ?_ | refine ld26 rfl rfl rfl x1 ?_ | refine ldk rfl rfl rfl x1 ?_)
      generalize V1.alloc (Obj.cells (chv C1) 26) = V2 at *
      clear x1
      have ol := o0.lt
      have kl := k0.lt
      have pf : V2.frozen? ⟨w.heap.size + 1, 1, none⟩ = false := o0.o.frozen 1
      have k1 := k0.other ⟨w.heap.size + 1, 1, none⟩ (.int .u64 (c.n : Int)) (by simp)
      have o1 := o0.setN c.n
      have b1 : Below w.heap.size w (V2.setCell ⟨w.heap.size + 1, 1, none⟩ (.int .u64 (c.n : Int))) := b0.setCell (p := ⟨w.heap.size + 1, 1, none⟩) (by simp) _
      clear k0 o0 b0 c0 p0
      go_wp2_with (first | refine ld26 rfl rfl rfl o1 ?_)
      clear c1 pf p1
      generalize V2.setCell ⟨w.heap.size + 1, 1, none⟩ (.int .u64 (c.n : Int)) = Y0 at *
      have k0 := k1
      have o0 := o1
      have b0 := b1
      clear k1 o1 b1
      refine (hr _).mono ?_
      rintro e V21 ⟨rfl, hx⟩
      replace k0 := k0.below hx
      replace o0 := o0.below hx
      replace b0 := b0.trans (hx.mono b0.size)
      clear hx
      try dsimp only [rsv, bad]
      have hx := grow V21 (Obj.cells (chv X1) 26)
      have y1 := Cb.new V21 X1 hX
      replace k0 := k0.below hx
      replace o0 := o0.below hx
      replace b0 := b0.trans (hx.mono b0.size)
      clear hx
      by_cases h0 : X3 = 0
      · subst h0
        go_wp2_with (first | refine sto26n (d := X1) hX rfl rfl rfl rfl rfl ?_)
        refine (hfx _ b0).mono ?_
        rintro e w1 ⟨rfl, hx⟩
        replace b0 := b0.trans (hx.mono b0.size)
        go_wp2_with fail
        go_ret
        exact ⟨rfl, b0⟩
      have hz := hw.resolve_left h0
      have h0' : ((X3 : Int) == 0) = false := by rw [beq_eq_false_iff_ne]; omega
      go_wp2_with (first | refine sto26n (d := X1) hX rfl rfl rfl rfl rfl ?_ | refine ld26 rfl rfl rfl k0 ?_ | refine ldk rfl rfl rfl k0 ?_ | refine ld26 rfl rfl rfl o0 ?_ | refine ldk rfl rfl rfl o0 ?_ | refine ld26 rfl rfl rfl y1 ?_ | refine ldk rfl rfl rfl y1 ?_)
      generalize V21.alloc (Obj.cells (chv X1) 26) = V22 at *
      refine (ht _ b0).mono ?_
      rintro e V23 ⟨rfl, hx⟩
      replace k0 := k0.below hx
      replace o0 := o0.below hx
      replace y1 := y1.below hx
      replace b0 := b0.trans (hx.mono b0.size)
      clear hx
      try dsimp only [rsv, bad]
      have c0 := k0.c0
      have p0 := o0.c0
      have hx := grow V23 (Obj.cells (chv X1) 26)
      have z1 := Cb.new V23 X1 hX
      replace k0 := k0.below hx
      replace o0 := o0.below hx
      replace y1 := y1.below hx
      replace c0 := cell_below c0 hx
      replace p0 := cell_below p0 hx
      replace b0 := b0.trans (hx.mono b0.size)
      clear hx
      clear y1
      try dsimp only at hz
      by_cases hm : c.m = o.m
      · have hv := str_yes (show o.m = c.m from hm.symm)
        rw [if_pos hm] at hz
        obtain ⟨rfl, rfl, rfl⟩ : X1 = zCh ∧ X2 = ⟨#[]⟩ ∧ X3 = 5 := by cases hz; exact ⟨rfl, rfl, rfl⟩
        go_wp2_with (first | refine sto26n (d := zCh) zCh_ok.k rfl rfl rfl rfl rfl ?_ | refine ld26 rfl rfl rfl k0 ?_ | refine ldk rfl rfl rfl k0 ?_ | refine ld26 rfl rfl rfl o0 ?_ | refine ldk rfl rfl rfl o0 ?_ | refine ld26 rfl rfl rfl z1 ?_ | refine ldk rfl rfl rfl z1 ?_)
        generalize V23.alloc (Obj.cells (chv zCh) 26) = V24 at *
        refine (hfx _ b0).mono ?_
        rintro e V25 ⟨rfl, hx⟩
        replace k0 := k0.below hx
        replace o0 := o0.below hx
        replace c0 := cell_below c0 hx
        replace p0 := cell_below p0 hx
        replace z1 := z1.below hx
        replace b0 := b0.trans (hx.mono b0.size)
        clear hx
        try dsimp only [rsv, bad]
        go_wp2_with (first | refine bld26zw (by kernel_rfl) rfl ?_ | refine eq26w zCh_ok.k (by kernel_rfl) rfl rfl rfl ?_ | refine ld26 rfl rfl rfl k0 ?_ | refine ldk rfl rfl rfl k0 ?_ | refine ld26w (by kernel_rfl) rfl rfl k0 ?_ | refine ldkw (by kernel_rfl) rfl rfl k0 ?_ | refine ld26 rfl rfl rfl o0 ?_ | refine ldk rfl rfl rfl o0 ?_ | refine ld26w (by kernel_rfl) rfl rfl o0 ?_ | refine ldkw (by kernel_rfl) rfl rfl o0 ?_ | refine ld26 rfl rfl rfl z1 ?_ | refine ldk rfl rfl rfl z1 ?_ | refine ld26w (by kernel_rfl) rfl rfl z1 ?_ | refine ldkw (by kernel_rfl) rfl rfl z1 ?_)
        go_ret
        exact ⟨rfl, b0⟩
      · have hv := str_no (show o.m ≠ c.m from fun e => hm e.symm)
        rw [if_neg hm] at hz
        obtain ⟨rfl, rfl, rfl⟩ : X1 = zCh ∧ X2 = ⟨#[]⟩ ∧ X3 = 7 := by cases hz; exact ⟨rfl, rfl, rfl⟩
        go_wp2_with (first | refine sto26n (d := zCh) zCh_ok.k rfl rfl rfl rfl rfl ?_ | refine ld26 rfl rfl rfl k0 ?_ | refine ldk rfl rfl rfl k0 ?_ | refine ld26 rfl rfl rfl o0 ?_ | refine ldk rfl rfl rfl o0 ?_ | refine ld26 rfl rfl rfl z1 ?_ | refine ldk rfl rfl rfl z1 ?_)
        generalize V23.alloc (Obj.cells (chv zCh) 26) = V24 at *
        refine (hfx _ b0).mono ?_
        rintro e V25 ⟨rfl, hx⟩
        replace k0 := k0.below hx
        replace o0 := o0.below hx
        replace c0 := cell_below c0 hx
        replace p0 := cell_below p0 hx
        replace z1 := z1.below hx
        replace b0 := b0.trans (hx.mono b0.size)
        clear hx
        try dsimp only [rsv, bad]
        go_wp2_with (first | refine bld26zw (by kernel_rfl) rfl ?_ | refine eq26w zCh_ok.k (by kernel_rfl) rfl rfl rfl ?_ | refine ld26 rfl rfl rfl k0 ?_ | refine ldk rfl rfl rfl k0 ?_ | refine ld26w (by kernel_rfl) rfl rfl k0 ?_ | refine ldkw (by kernel_rfl) rfl rfl k0 ?_ | refine ld26 rfl rfl rfl o0 ?_ | refine ldk rfl rfl rfl o0 ?_ | refine ld26w (by kernel_rfl) rfl rfl o0 ?_ | refine ldkw (by kernel_rfl) rfl rfl o0 ?_ | refine ld26 rfl rfl rfl z1 ?_ | refine ldk rfl rfl rfl z1 ?_ | refine ld26w (by kernel_rfl) rfl rfl z1 ?_ | refine ldkw (by kernel_rfl) rfl rfl z1 ?_)
        go_ret
        exact ⟨rfl, b0⟩

set_option maxRecDepth 100000 in
theorem lifted (os : Os) (started : os.Started) (H : Type) (enc : TypeId × Value → H) :
    ReturnsInHanded {} Tryd.checked os 9 .any (fun w args => (Rows.sessionOtherSpec.pre enc Tryd.prog Tryd.f9 [] false w args ∧ laidMetH Tryd.prog lay2 w) ∧ sizedMet enc Tryd.prog Tryd.f9 (OpenSpec.ofChange Rows.sessionOtherSpec) false w args)
      (Rows.sessionOtherSpec.post enc Tryd.prog Tryd.f9 false true false false) := by
  refine returnsInHanded_of_change_and (C := Tryd.checked) (X := fun w _ => laidMetH Tryd.prog lay2 w) (fun _ _ _ hh h => h.of_heap hh) own started (by kernel_rfl) Tryd.func9
    (ChangeSpec.witness_shaped (enc := enc) (C := Tryd.checked) (os := os) (X := fun w _ => laidMetH Tryd.prog lay2 w) false (World.doorLaid Tryd.prog 400 os) #[.agg (#[.string ByteArray.empty, .int .u64 0] ++ Array.replicate 32 (.int .u8 0)), .agg (#[.string ByteArray.empty, .int .u64 0] ++ Array.replicate 32 (.int .u8 0)), .string ByteArray.empty] 8 rfl (World.shaped_of_RefB (by kernel_rfl) (by kernel_rfl)) (by kernel_rfl) (by kernel_rfl) (by kernel_rfl) (door_met os _)) ?_
  intro W base args ds gs before hval0 hW _ _ hL _
  have hval : ∀ (j : Nat) t v, Tryd.f9.params[j]? = some t → args[j]? = some v → Value.okWide Tryd.prog W .any base t v := hval0
  have hW' := hW
  obtain ⟨p, q, hA0, hV, rfl, hfz, hnd⟩ := hW
  have hA : DataW.TrodAll enc Tryd.prog W 0 (fun _ => true) true Tryd.f9.params.toList args.toList ds p := hA0
  rw [Tryd.params9] at hA hval
  obtain ⟨v0, vs0, d0, ds0, p0, q0, hargs, rfl, rfl, h0, r0⟩ := trodAll_cons hA
  obtain ⟨v1, vs1, d1, ds1, p1, q1, rfl, rfl, rfl, h1, r1⟩ := trodAll_cons r0
  obtain ⟨v2, vs2, d2, ds2, p2, q2, rfl, rfl, rfl, h2, r2⟩ := trodAll_cons r1
  obtain ⟨rfl, rfl, rfl⟩ := trodAll_nil r2
  obtain rfl : args = #[v0, v1, v2] := by cases args; simp_all
  obtain ⟨rfl, rfl⟩ := trodVars_none hV
  obtain ⟨K0, rfl, b0⟩ := okChan (hval 0 26 v0 rfl rfl)
  have k0 := h0
  have lt0 : ∀ x ∈ p0, x.block < W.heap.size := by obtain ⟨m, hm⟩ := k0; exact DataW.trod_lt m _ _ _ hm
  obtain ⟨K1, rfl, b1⟩ := okChan (hval 1 26 v1 rfl rfl)
  have k1 := h1
  have lt1 : ∀ x ∈ p1, x.block < W.heap.size := by obtain ⟨m, hm⟩ := k1; exact DataW.trod_lt m _ _ _ hm
  obtain ⟨a2, rfl, rfl, rfl, w2⟩ := open_string Tryd.underlying9 (hval 2 9 v2 rfl rfl) h2
  have hT := of_laid hL
  clear hA0 hval0
  refine (walk K0 K1 a2 b0 b1 (by unfold maxLen at w2; exact w2) W hT).mono fun e W' ⟨he, bel⟩ => ?_
  subst he
  exact ⟨_, rfl, _, _, _, [], _, [], hW', trodAll_mk1 (shut_bool Tryd.underlying4 _), (trodAll_cons_mk (Below.trod laidOut (by kernel_rfl) (of_decide_eq_true (by kernel_rfl)) k0 bel lt0) (trodAll_cons_mk (Below.trod laidOut (by kernel_rfl) (of_decide_eq_true (by kernel_rfl)) k1 bel lt1) (trodAll_cons_mk (shut_string Tryd.underlying9 w2) trodAll_mk0))), rfl, bel.frame _, fun h => by cases h⟩

theorem bare : Rows.SessionOtherSaid :=
  OpenClaim.holds_of_wide 9 Tryd.f9 rfl rfl rfl rfl rfl rfl rfl ⟨rfl, rfl, rfl, rfl, rfl⟩ rfl rfl rfl rfl rfl (by kernel_rfl) Tryd.func9 (by kernel_rfl)
    (of_decide_eq_true (by kernel_rfl)) (by unfold Func.isWrapper; first | (rw [if_pos (by decide +kernel)]; kernel_rfl) | (rw [if_neg (by decide +kernel)]; exact ⟨rfl, rfl⟩))
    (fun os started H enc _ => lifted os started H enc)

/-- the statement -/
theorem proved : Rows.SessionOtherCardSaid :=
  Claim7.holds_tied_plain_at .later [] [.data, .data] true Rows.sessionOtherCard.stood.harness false
    bare (fun _ h => by cases h) (by kernel_rfl) (fun _ h => by cases h) sessionOther_row_tie rfl ⟨rfl, rfl⟩ (by kernel_rfl) rfl
    (fun f fn hf hfn => by
      obtain rfl : f = 9 := Option.some.inj ((show Tryd.prog.funcNamed "hibernacle/hibernaclelaw43.SessionOther" = some 9 by kernel_rfl).symm.trans hf) |>.symm
      obtain rfl : fn = Tryd.f9 := (Option.some.inj (Tryd.func9.symm.trans hfn)).symm
      exact ⟨by kernel_rfl, fun j t ht => by
        rw [Tryd.params9] at ht
        have hm : t ∈ [26, 26, 9] := by simpa using Array.mem_of_getElem? ht
        have hall : ([26, 26, 9].all fun u => !Tryd.prog.wantsStandIn u) = true := by kernel_rfl
        exact (show Tryd.prog.wantsStandIn t = false by simpa using List.all_eq_true.1 hall t hm)⟩)
    (by kernel_rfl)
end Go.Proofs.YtaoaebdjinlcnaaDoor.sessionOther
