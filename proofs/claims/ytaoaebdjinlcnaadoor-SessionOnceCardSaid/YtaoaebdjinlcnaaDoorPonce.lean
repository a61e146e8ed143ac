/-
  For every end of a channel and every two messages: SessionOnce answers true (what was taken isn't taken again, nor what was sent ahead of it), and the arguments read behind the call as they read before; the package variables are laid by the program's own text.
-/
import Derived.Test.YtaoaebdjinlcnaaDoorRows
import Derived.Test.YtaoaebdjinlcnaaDoorCards
import Derived.Test.YtaoaebdjinlcnaaDoorTie
import Derived.Test.YtaoaebdjinlcnaaDoorVk
import Derived.Test.YtaoaebdjinlcnaaDoorLa
import Derived.WalkKit
import Derived.ProofKit
import Derived.LaidMore
import Derived.OpenShut
import Derived.ShutString
import Derived.Stop.Joined
namespace Go.Proofs.YtaoaebdjinlcnaaDoor.sessionOnce
open Go.ChangeShapes Go.WideShapes Go.ChangeAt Go.RowKit
open Go.ChangeMaps (open_string shut_string)
set_option linter.unusedVariables false
set_option linter.unusedSimpArgs false

theorem own : ownKnob Tryd.prog.godebug = none := by kernel_rfl
theorem door_met (os : Os) (args : Array Value) : laidMetH Tryd.prog lay2 ((World.doorLaid Tryd.prog 400 os).forCall (fun _ _ => 0) ⟨#[], args, []⟩).memory :=
  laidMetH_of_parts3 (fuel := 8) (laidMet_of_run' 8 (by kernel_rfl) (by kernel_rfl)) (by kernel_rfl) (by kernel_rfl)
set_option maxRecDepth 100000 in
set_option maxHeartbeats 8000000 in
theorem walk (c : Ch) (s1 s2 : ByteArray) (hc : c.Ok) (wf1 : s1.size ≤ maxLen) (wf2 : s2.size ≤ maxLen) (w : World) (hT : Tab w) :
    Calls Tryd.prog 6 #[.agg (chv c), .string s1, .string s2] w fun e w' => e = .returned (.bool true) ∧ Below w.heap.size w w' := by
  have hfx := fun wr (h : Below w.heap.size w wr) => fixed_any wr (hT.below h)
  have k0 := Cb.new w c hc.k
  have b0 := grow w (Obj.cells (chv c) 26)
  go_enter Tryd.func6, Tryd.ntmps6
  go_upto_region 1 with fail
  generalize w.alloc (Obj.cells (chv c) 26) = W0 at *
  have c0 := k0.c0
  have c1 := k0.c1
  by_cases hbig : 100 < c.m.size ∨ 100 < s1.size ∨ 100 < s2.size ∨ 1152921504606846976 < c.n
  · have dd : 100 < (c.m.size : Int) ∨ (¬ 100 < (c.m.size : Int) ∧ 100 < (s1.size : Int)) ∨ (¬ 100 < (c.m.size : Int) ∧ ¬ 100 < (s1.size : Int) ∧ 100 < (s2.size : Int)) ∨ (¬ 100 < (c.m.size : Int) ∧ ¬ 100 < (s1.size : Int) ∧ ¬ 100 < (s2.size : Int) ∧ 1152921504606846976 < (c.n : Int)) := by omega
    rcases dd with d0 | ⟨d0, d1⟩ | ⟨d0, d1, d2⟩ | ⟨d0, d1, d2, d3⟩ <;>
    · go_wp2_with fail
      refine (hfx _ b0).mono ?_
      rintro e w1 ⟨rfl, hx⟩
      replace b0 := b0.trans (hx.mono b0.size)
      go_wp2_with fail
      go_ret
      exact ⟨rfl, b0⟩
  · have d0 : ¬ 100 < (c.m.size : Int) := by omega
    have d1 : ¬ 100 < (s1.size : Int) := by omega
    have d2 : ¬ 100 < (s2.size : Int) := by omega
    have d3 : ¬ 1152921504606846976 < (c.n : Int) := by omega
    have hc1 := ahead_ok hc 1 (by omega)
    have hc2 := ahead_ok hc 2 (by omega)
    have zf1 := frame_size c s1 (by omega) (by omega)
    have zf2 := frame_size (ahead c 1) s2 (by show c.m.size ≤ _; omega) (by omega)
    have zm1 : (ahead c 1).m.size ≤ 100 := by show c.m.size ≤ _; omega
    have zm2 : (ahead c 2).m.size ≤ 100 := by show c.m.size ≤ _; omega
    have hs1 := fun wr (h : Below w.heap.size w wr) => send_any c s1 wr hc (hT.below h) (by omega) (by omega)
    rw [show sendR c s1 = (ahead c 1, frameD c s1, 0) from send_ok c s1 (by omega) (by omega)] at hs1
    have hs2 := fun wr (h : Below w.heap.size w wr) => send_any (ahead c 1) s2 wr hc1 (hT.below h) (by omega) (by omega)
    rw [show sendR (ahead c 1) s2 = (ahead c 2, frameD (ahead c 1) s2, 0) from send_ok (ahead c 1) s2 (by omega) (by show c.n + 1 < _; omega)] at hs2
    have ht1 := fun wr (h : Below w.heap.size w wr) => stake_any c (frameD (ahead c 1) s2) wr hc (hT.below h) (by omega) (by omega)
    rw [show takeR c (frameD (ahead c 1) s2) = (ahead c 2, s2, 0) from take_ahead c 0 1 s2 (by omega) (by omega) (by omega) (by omega) (by omega)] at ht1
    have ht2 := fun wr (h : Below w.heap.size w wr) => stake_any (ahead c 2) (frameD c s1) wr hc2 (hT.below h) (by omega) (by omega)
    rw [show takeR (ahead c 2) (frameD c s1) = bad 19 from take_old (ahead c 2) c s1 (by omega) (by omega) (by omega) rfl (by show c.n < c.n + 2; omega)] at ht2
    have ht3 := fun wr (h : Below w.heap.size w wr) => stake_any (ahead c 2) (frameD (ahead c 1) s2) wr hc2 (hT.below h) (by omega) (by omega)
    rw [show takeR (ahead c 2) (frameD (ahead c 1) s2) = bad 19 from take_old (ahead c 2) (ahead c 1) s2 (by show c.n + 1 < _; omega) (by omega) (by omega) rfl (by show c.n + 1 < c.n + 2; omega)] at ht3
    have h1 := hc1.k
    have h2 := hc2.k
    have he := str_yes (rfl : s2 = s2)
    generalize ahead c 1 = C1 at *
    generalize ahead c 2 = C2 at *
    generalize frameD c s1 = F1 at *
    generalize frameD C1 s2 = F2 at *
    clear hbig hT zf1 zf2
    go_wp2_with (first | refine ld26 rfl rfl rfl k0 ?_ | refine ldk rfl rfl rfl k0 ?_)
    refine (hs1 _ b0).mono ?_
    rintro e V1 ⟨rfl, hx⟩
    replace k0 := k0.below hx
    replace c0 := cell_below c0 hx
    replace c1 := cell_below c1 hx
    replace b0 := b0.trans (hx.mono b0.size)
    clear hx
    try dsimp only [rsv, bad]
    have hx := grow V1 (Obj.cells (chv C1) 26)
    have x1 := Cb.new V1 C1 h1
    replace k0 := k0.below hx
    replace c0 := cell_below c0 hx
    replace c1 := cell_below c1 hx
    replace b0 := b0.trans (hx.mono b0.size)
    clear hx
    go_wp2_with (first | refine sto26n (d := C1) h1 rfl rfl rfl rfl rfl ?_ | refine ld26 rfl rfl rfl k0 ?_ | refine ldk rfl rfl rfl k0 ?_ | refine ld26 rfl rfl rfl x1 ?_ | refine ldk rfl rfl rfl x1 ?_)
    generalize V1.alloc (Obj.cells (chv C1) 26) = V2 at *
    refine (hs2 _ b0).mono ?_
    rintro e V3 ⟨rfl, hx⟩
    replace k0 := k0.below hx
    replace c0 := cell_below c0 hx
    replace c1 := cell_below c1 hx
    replace x1 := x1.below hx
    replace b0 := b0.trans (hx.mono b0.size)
    clear hx
    try dsimp only [rsv, bad]
    have hx := grow V3 (Obj.cells (chv C2) 26)
    have x2 := Cb.new V3 C2 h2
    replace k0 := k0.below hx
    replace c0 := cell_below c0 hx
    replace c1 := cell_below c1 hx
    replace x1 := x1.below hx
    replace b0 := b0.trans (hx.mono b0.size)
    clear hx
    go_wp2_with (first | refine sto26n (d := C2) h2 rfl rfl rfl rfl rfl ?_ | refine ld26 rfl rfl rfl k0 ?_ | refine ldk rfl rfl rfl k0 ?_ | refine ld26 rfl rfl rfl x1 ?_ | refine ldk rfl rfl rfl x1 ?_ | refine ld26 rfl rfl rfl x2 ?_ | refine ldk rfl rfl rfl x2 ?_)
    generalize V3.alloc (Obj.cells (chv C2) 26) = V4 at *
    refine (ht1 _ b0).mono ?_
    rintro e V5 ⟨rfl, hx⟩
    replace k0 := k0.below hx
    replace c0 := cell_below c0 hx
    replace c1 := cell_below c1 hx
    replace x1 := x1.below hx
    replace x2 := x2.below hx
    replace b0 := b0.trans (hx.mono b0.size)
    clear hx
    try dsimp only [rsv, bad]
    have hx := grow V5 (Obj.cells (chv C2) 26)
    have y2 := Cb.new V5 C2 h2
    replace k0 := k0.below hx
    replace c0 := cell_below c0 hx
    replace c1 := cell_below c1 hx
    replace x1 := x1.below hx
    replace x2 := x2.below hx
    replace b0 := b0.trans (hx.mono b0.size)
    clear hx
    go_wp2_with (first | refine sto26n (d := C2) h2 rfl rfl rfl rfl rfl ?_ | refine ld26 rfl rfl rfl k0 ?_ | refine ldk rfl rfl rfl k0 ?_ | refine ld26 rfl rfl rfl x1 ?_ | refine ldk rfl rfl rfl x1 ?_ | refine ld26 rfl rfl rfl x2 ?_ | refine ldk rfl rfl rfl x2 ?_ | refine ld26 rfl rfl rfl y2 ?_ | refine ldk rfl rfl rfl y2 ?_)
    generalize V5.alloc (Obj.cells (chv C2) 26) = V6 at *
    refine (ht2 _ b0).mono ?_
    rintro e V7 ⟨rfl, hx⟩
    replace k0 := k0.below hx
    replace c0 := cell_below c0 hx
    replace c1 := cell_below c1 hx
    replace x1 := x1.below hx
    replace x2 := x2.below hx
    replace y2 := y2.below hx
    replace b0 := b0.trans (hx.mono b0.size)
    clear hx
    try dsimp only [rsv, bad]
    have hx := grow V7 (Obj.cells (chv zCh) 26)
    have z2 := Cb.new V7 zCh zCh_ok.k
    replace k0 := k0.below hx
    replace c0 := cell_below c0 hx
    replace c1 := cell_below c1 hx
    replace x1 := x1.below hx
    replace x2 := x2.below hx
    replace y2 := y2.below hx
    replace b0 := b0.trans (hx.mono b0.size)
    clear hx
    go_wp2_with (first | refine sto26n (d := zCh) zCh_ok.k rfl rfl rfl rfl rfl ?_ | refine ld26 rfl rfl rfl k0 ?_ | refine ldk rfl rfl rfl k0 ?_ | refine ld26 rfl rfl rfl x1 ?_ | refine ldk rfl rfl rfl x1 ?_ | refine ld26 rfl rfl rfl x2 ?_ | refine ldk rfl rfl rfl x2 ?_ | refine ld26 rfl rfl rfl y2 ?_ | refine ldk rfl rfl rfl y2 ?_ | refine ld26 rfl rfl rfl z2 ?_ | refine ldk rfl rfl rfl z2 ?_)
    generalize V7.alloc (Obj.cells (chv zCh) 26) = V8 at *
    refine (ht3 _ b0).mono ?_
    rintro e V9 ⟨rfl, hx⟩
    replace k0 := k0.below hx
    replace c0 := cell_below c0 hx
    replace c1 := cell_below c1 hx
    replace x1 := x1.below hx
    replace x2 := x2.below hx
    replace y2 := y2.below hx
    replace z2 := z2.below hx
    replace b0 := b0.trans (hx.mono b0.size)
    clear hx
    try dsimp only [rsv, bad]
    have hx := grow V9 (Obj.cells (chv zCh) 26)
    have z3 := Cb.new V9 zCh zCh_ok.k
    replace k0 := k0.below hx
    replace c0 := cell_below c0 hx
    replace c1 := cell_below c1 hx
    replace x1 := x1.below hx
    replace x2 := x2.below hx
    replace y2 := y2.below hx
    replace z2 := z2.below hx
    replace b0 := b0.trans (hx.mono b0.size)
    clear hx
    go_wp2_with (first | refine sto26n (d := zCh) zCh_ok.k rfl rfl rfl rfl rfl ?_ | refine ld26 rfl rfl rfl k0 ?_ | refine ldk rfl rfl rfl k0 ?_ | refine ld26 rfl rfl rfl x1 ?_ | refine ldk rfl rfl rfl x1 ?_ | refine ld26 rfl rfl rfl x2 ?_ | refine ldk rfl rfl rfl x2 ?_ | refine ld26 rfl rfl rfl y2 ?_ | refine ldk rfl rfl rfl y2 ?_ | refine ld26 rfl rfl rfl z2 ?_ | refine ldk rfl rfl rfl z2 ?_ | refine ld26 rfl rfl rfl z3 ?_ | refine ldk rfl rfl rfl z3 ?_)
    generalize V9.alloc (Obj.cells (chv zCh) 26) = V10 at *
    refine (hfx _ b0).mono ?_
    rintro e V11 ⟨rfl, hx⟩
    replace k0 := k0.below hx
    replace c0 := cell_below c0 hx
    replace c1 := cell_below c1 hx
    replace x1 := x1.below hx
    replace x2 := x2.below hx
    replace y2 := y2.below hx
    replace z2 := z2.below hx
    replace z3 := z3.below hx
    replace b0 := b0.trans (hx.mono b0.size)
    clear hx
    try dsimp only [rsv, bad]
    go_wp2_with (first | refine eq26w h2 (by kernel_rfl) rfl rfl rfl ?_ | refine ld26 rfl rfl rfl k0 ?_ | refine ldk rfl rfl rfl k0 ?_ | refine ld26w (by kernel_rfl) rfl rfl k0 ?_ | refine ldkw (by kernel_rfl) rfl rfl k0 ?_ | refine ld26 rfl rfl rfl x1 ?_ | refine ldk rfl rfl rfl x1 ?_ | refine ld26w (by kernel_rfl) rfl rfl x1 ?_ | refine ldkw (by kernel_rfl) rfl rfl x1 ?_ | refine ld26 rfl rfl rfl x2 ?_ | refine ldk rfl rfl rfl x2 ?_ | refine ld26w (by kernel_rfl) rfl rfl x2 ?_ | refine ldkw (by kernel_rfl) rfl rfl x2 ?_ | refine ld26 rfl rfl rfl y2 ?_ | refine ldk rfl rfl rfl y2 ?_ | refine ld26w (by kernel_rfl) rfl rfl y2 ?_ | refine ldkw (by kernel_rfl) rfl rfl y2 ?_ | refine ld26 rfl rfl rfl z2 ?_ | refine ldk rfl rfl rfl z2 ?_ | refine ld26w (by kernel_rfl) rfl rfl z2 ?_ | refine ldkw (by kernel_rfl) rfl rfl z2 ?_ | refine ld26 rfl rfl rfl z3 ?_ | refine ldk rfl rfl rfl z3 ?_ | refine ld26w (by kernel_rfl) rfl rfl z3 ?_ | refine ldkw (by kernel_rfl) rfl rfl z3 ?_)
    go_ret
    exact ⟨rfl, b0⟩

set_option maxRecDepth 100000 in
theorem lifted (os : Os) (started : os.Started) (H : Type) (enc : TypeId × Value → H) :
    ReturnsInHanded {} Tryd.checked os 6 .any (fun w args => (Rows.sessionOnceSpec.pre enc Tryd.prog Tryd.f6 [] false w args ∧ laidMetH Tryd.prog lay2 w) ∧ sizedMet enc Tryd.prog Tryd.f6 (OpenSpec.ofChange Rows.sessionOnceSpec) false w args)
      (Rows.sessionOnceSpec.post enc Tryd.prog Tryd.f6 false true false false) := by
  refine returnsInHanded_of_change_and (C := Tryd.checked) (X := fun w _ => laidMetH Tryd.prog lay2 w) (fun _ _ _ hh h => h.of_heap hh) own started (by kernel_rfl) Tryd.func6
    (ChangeSpec.witness_shaped (enc := enc) (C := Tryd.checked) (os := os) (X := fun w _ => laidMetH Tryd.prog lay2 w) false (World.doorLaid Tryd.prog 400 os) #[.agg (#[.string ByteArray.empty, .int .u64 0] ++ Array.replicate 32 (.int .u8 0)), .string ByteArray.empty, .string ByteArray.empty] 8 rfl (World.shaped_of_RefB (by kernel_rfl) (by kernel_rfl)) (by kernel_rfl) (by kernel_rfl) (by kernel_rfl) (door_met os _)) ?_
  intro W base args ds gs before hval0 hW _ _ hL _
  have hval : ∀ (j : Nat) t v, Tryd.f6.params[j]? = some t → args[j]? = some v → Value.okWide Tryd.prog W .any base t v := hval0
  have hW' := hW
  obtain ⟨p, q, hA0, hV, rfl, hfz, hnd⟩ := hW
  have hA : DataW.TrodAll enc Tryd.prog W 0 (fun _ => true) true Tryd.f6.params.toList args.toList ds p := hA0
  rw [Tryd.params6] at hA hval
  obtain ⟨v0, vs0, d0, ds0, p0, q0, hargs, rfl, rfl, h0, r0⟩ := trodAll_cons hA
  obtain ⟨v1, vs1, d1, ds1, p1, q1, rfl, rfl, rfl, h1, r1⟩ := trodAll_cons r0
  obtain ⟨v2, vs2, d2, ds2, p2, q2, rfl, rfl, rfl, h2, r2⟩ := trodAll_cons r1
  obtain ⟨rfl, rfl, rfl⟩ := trodAll_nil r2
  obtain rfl : args = #[v0, v1, v2] := by cases args; simp_all
  obtain ⟨rfl, rfl⟩ := trodVars_none hV
  obtain ⟨K0, rfl, b0⟩ := okChan (hval 0 26 v0 rfl rfl)
  have k0 := h0
  have lt0 : ∀ x ∈ p0, x.block < W.heap.size := by obtain ⟨m, hm⟩ := k0; exact DataW.trod_lt m _ _ _ hm
  obtain ⟨a1, rfl, rfl, rfl, w1⟩ := open_string Tryd.underlying9 (hval 1 9 v1 rfl rfl) h1
  obtain ⟨a2, rfl, rfl, rfl, w2⟩ := open_string Tryd.underlying9 (hval 2 9 v2 rfl rfl) h2
  have hT := of_laid hL
  clear hA0 hval0
  refine (walk K0 a1 a2 b0 (by unfold maxLen at w1; exact w1) (by unfold maxLen at w2; exact w2) W hT).mono fun e W' ⟨he, bel⟩ => ?_
  subst he
  exact ⟨_, rfl, _, _, _, [], _, [], hW', trodAll_mk1 (shut_bool Tryd.underlying4 _), (trodAll_cons_mk (Below.trod laidOut (by kernel_rfl) (of_decide_eq_true (by kernel_rfl)) k0 bel lt0) (trodAll_cons_mk (shut_string Tryd.underlying9 w1) (trodAll_cons_mk (shut_string Tryd.underlying9 w2) trodAll_mk0))), rfl, bel.frame _, fun h => by cases h⟩

theorem bare : Rows.SessionOnceSaid :=
  OpenClaim.holds_of_wide 6 Tryd.f6 rfl rfl rfl rfl rfl rfl rfl ⟨rfl, rfl, rfl, rfl, rfl⟩ rfl rfl rfl rfl rfl (by kernel_rfl) Tryd.func6 (by kernel_rfl)
    (of_decide_eq_true (by kernel_rfl)) (by unfold Func.isWrapper; first | (rw [if_pos (by decide +kernel)]; kernel_rfl) | (rw [if_neg (by decide +kernel)]; exact ⟨rfl, rfl⟩))
    (fun os started H enc _ => lifted os started H enc)

/-- the statement -/
theorem proved : Rows.SessionOnceCardSaid :=
  Claim7.holds_tied_plain_at .later [] [.data, .data] true Rows.sessionOnceCard.stood.harness false
    bare (fun _ h => by cases h) (by kernel_rfl) (fun _ h => by cases h) sessionOnce_row_tie rfl ⟨rfl, rfl⟩ (by kernel_rfl) rfl
    (fun f fn hf hfn => by
      obtain rfl : f = 6 := Option.some.inj ((show Tryd.prog.funcNamed "hibernacle/hibernaclelaw43.SessionOnce" = some 6 by kernel_rfl).symm.trans hf) |>.symm
      obtain rfl : fn = Tryd.f6 := (Option.some.inj (Tryd.func6.symm.trans hfn)).symm
      exact ⟨by kernel_rfl, fun j t ht => by
        rw [Tryd.params6] at ht
        have hm : t ∈ [26, 9, 9] := by simpa using Array.mem_of_getElem? ht
        have hall : ([26, 9, 9].all fun u => !Tryd.prog.wantsStandIn u) = true := by kernel_rfl
        exact (show Tryd.prog.wantsStandIn t = false by simpa using List.all_eq_true.1 hall t hm)⟩)
    (by kernel_rfl)
end Go.Proofs.YtaoaebdjinlcnaaDoor.sessionOnce
