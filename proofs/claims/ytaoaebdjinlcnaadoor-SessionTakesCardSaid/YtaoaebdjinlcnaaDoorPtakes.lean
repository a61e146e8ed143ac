/-
  For every end of a channel and every frame: SessionTakes answers true (what is taken, or why it isn't, is the document's; likewise of answers), and the arguments read behind the call as they read before; the package variables are laid by the program's own text.
-/
import Derived.Test.YtaoaebdjinlcnaaDoorRows
import Derived.Test.YtaoaebdjinlcnaaDoorCards
import Derived.Test.YtaoaebdjinlcnaaDoorTie
import Derived.Test.YtaoaebdjinlcnaaDoorVk
import Derived.Test.YtaoaebdjinlcnaaDoorLa
import Derived.WalkKit
import Derived.ProofKit
import Derived.LaidMore
import Derived.OpenShut
import Derived.ShutString
import Derived.Stop.Joined
namespace Go.Proofs.YtaoaebdjinlcnaaDoor.sessionTakes
open Go.ChangeShapes Go.WideShapes Go.ChangeAt Go.RowKit
open Go.ChangeMaps (open_string shut_string)
set_option linter.unusedVariables false
set_option linter.unusedSimpArgs false

theorem own : ownKnob Tryd.prog.godebug = none := by kernel_rfl
theorem door_met (os : Os) (args : Array Value) : laidMetH Tryd.prog lay2 ((World.doorLaid Tryd.prog 400 os).forCall (fun _ _ => 0) ⟨#[], args, []⟩).memory :=
  laidMetH_of_parts3 (fuel := 8) (laidMet_of_run' 8 (by kernel_rfl) (by kernel_rfl)) (by kernel_rfl) (by kernel_rfl)
set_option maxRecDepth 100000 in
set_option maxHeartbeats 4000000 in
theorem walk (c : Ch) (f : ByteArray) (hc : c.Ok) (wf : f.size ≤ maxLen) (w : World) (hT : Tab w) :
    Calls Tryd.prog 4 #[.agg (chv c), .string f] w fun e w' => e = .returned (.bool true) ∧ Below w.heap.size w w' := by
  have hfx := fun wr (h : Below w.heap.size w wr) => fixed_any wr (hT.below h)
  have k0 := Cb.new w c hc.k
  have b0 := grow w (Obj.cells (chv c) 26)
  go_enter Tryd.func4, Tryd.ntmps4
  go_upto_region 1 with fail
  generalize w.alloc (Obj.cells (chv c) 26) = W0 at *
  have c0 := k0.c0
  have c1 := k0.c1
  by_cases hbig : 100 < c.m.size ∨ 600 < f.size
  · have dd : 100 < (c.m.size : Int) ∨ (¬ 100 < (c.m.size : Int) ∧ 600 < (f.size : Int)) := by omega
    rcases dd with d0 | ⟨d0, d1⟩ <;>
    · go_wp2_with fail
      refine (hfx _ b0).mono ?_
      rintro e w1 ⟨rfl, hx⟩
      replace b0 := b0.trans (hx.mono b0.size)
      go_wp2_with fail
      go_ret
      exact ⟨rfl, b0⟩
  · have d0 : ¬ 100 < (c.m.size : Int) := by omega
    have d1 : ¬ 600 < (f.size : Int) := by omega
    have ht := fun wr (h : Below w.heap.size w wr) => stake_any c f wr hc (hT.below h) (by omega) (by omega)
    have hr := fun wr => rstake_any c f wr hc (by omega) (by omega)
    have ha := fun wr (h : Below w.heap.size w wr) => answer_any c.K c.n f wr hc.b hc.k hc.n (hT.below h) (by omega)
    have hb := fun wr => ranswer_any c.K c.n f wr hc.b hc.k hc.n (by omega)
    have hX : (takeR c f).1.K.length = 32 := takeR_ok hc f
    generalize takeR c f = X at *
    obtain ⟨X1, X2, X3⟩ := X
    dsimp only at hX
    generalize ansD c.K c.n f = Y at *
    obtain ⟨Y1, Y2⟩ := Y
    clear hbig hT
    go_wp2_with (first | refine ld26 rfl rfl rfl k0 ?_ | refine ldk rfl rfl rfl k0 ?_)
    refine (ht _ b0).mono ?_
    rintro e V1 ⟨rfl, hx⟩
    replace k0 := k0.below hx
    replace c0 := cell_below c0 hx
    replace c1 := cell_below c1 hx
    replace b0 := b0.trans (hx.mono b0.size)
    clear hx
    try dsimp only [rsv, bad]
    have hx := grow V1 (Obj.cells (chv X1) 26)
    have x1 := Cb.new V1 X1 hX
    replace k0 := k0.below hx
    replace c0 := cell_below c0 hx
    replace c1 := cell_below c1 hx
    replace b0 := b0.trans (hx.mono b0.size)
    clear hx
    go_wp2_with (first | refine sto26n (d := X1) hX rfl rfl rfl rfl rfl ?_ | refine ld26 rfl rfl rfl k0 ?_ | refine ldk rfl rfl rfl k0 ?_ | refine ld26 rfl rfl rfl x1 ?_ | refine ldk rfl rfl rfl x1 ?_)
    generalize V1.alloc (Obj.cells (chv X1) 26) = V2 at *
    refine (hr _).mono ?_
    rintro e V3 ⟨rfl, hx⟩
    replace k0 := k0.below hx
    replace c0 := cell_below c0 hx
    replace c1 := cell_below c1 hx
    replace x1 := x1.below hx
    replace b0 := b0.trans (hx.mono b0.size)
    clear hx
    try dsimp only [rsv, bad]
    have hx := grow V3 (Obj.cells (chv X1) 26)
    have y1 := Cb.new V3 X1 hX
    replace k0 := k0.below hx
    replace c0 := cell_below c0 hx
    replace c1 := cell_below c1 hx
    replace x1 := x1.below hx
    replace b0 := b0.trans (hx.mono b0.size)
    clear hx
    go_wp2_with (first | refine sto26n (d := X1) hX rfl rfl rfl rfl rfl ?_ | refine ld26 rfl rfl rfl k0 ?_ | refine ldk rfl rfl rfl k0 ?_ | refine ld26 rfl rfl rfl x1 ?_ | refine ldk rfl rfl rfl x1 ?_ | refine ld26 rfl rfl rfl y1 ?_ | refine ldk rfl rfl rfl y1 ?_)
    generalize V3.alloc (Obj.cells (chv X1) 26) = V4 at *
    refine (ha _ b0).mono ?_
    rintro e V5 ⟨rfl, hx⟩
    replace k0 := k0.below hx
    replace c0 := cell_below c0 hx
    replace c1 := cell_below c1 hx
    replace x1 := x1.below hx
    replace y1 := y1.below hx
    replace b0 := b0.trans (hx.mono b0.size)
    clear hx
    try dsimp only [rsv, bad]
    go_wp2_with (first | refine ld26 rfl rfl rfl k0 ?_ | refine ldk rfl rfl rfl k0 ?_ | refine ld26 rfl rfl rfl x1 ?_ | refine ldk rfl rfl rfl x1 ?_ | refine ld26 rfl rfl rfl y1 ?_ | refine ldk rfl rfl rfl y1 ?_)
    refine (hb _).mono ?_
    rintro e V6 ⟨rfl, hx⟩
    replace k0 := k0.below hx
    replace c0 := cell_below c0 hx
    replace c1 := cell_below c1 hx
    replace x1 := x1.below hx
    replace y1 := y1.below hx
    replace b0 := b0.trans (hx.mono b0.size)
    clear hx
    try dsimp only [rsv, bad]
    go_wp2_with (first | refine ld26 rfl rfl rfl k0 ?_ | refine ldk rfl rfl rfl k0 ?_ | refine ld26 rfl rfl rfl x1 ?_ | refine ldk rfl rfl rfl x1 ?_ | refine ld26 rfl rfl rfl y1 ?_ | refine ldk rfl rfl rfl y1 ?_)
    refine (hfx _ b0).mono ?_
    rintro e V7 ⟨rfl, hx⟩
    replace k0 := k0.below hx
    replace c0 := cell_below c0 hx
    replace c1 := cell_below c1 hx
    replace x1 := x1.below hx
    replace y1 := y1.below hx
    replace b0 := b0.trans (hx.mono b0.size)
    clear hx
    try dsimp only [rsv, bad]
    go_wp2_with (first | refine eq26w hX (by kernel_rfl) rfl rfl rfl ?_ | refine ld26 rfl rfl rfl k0 ?_ | refine ldk rfl rfl rfl k0 ?_ | refine ld26w (by kernel_rfl) rfl rfl k0 ?_ | refine ldkw (by kernel_rfl) rfl rfl k0 ?_ | refine ld26 rfl rfl rfl x1 ?_ | refine ldk rfl rfl rfl x1 ?_ | refine ld26w (by kernel_rfl) rfl rfl x1 ?_ | refine ldkw (by kernel_rfl) rfl rfl x1 ?_ | refine ld26 rfl rfl rfl y1 ?_ | refine ldk rfl rfl rfl y1 ?_ | refine ld26w (by kernel_rfl) rfl rfl y1 ?_ | refine ldkw (by kernel_rfl) rfl rfl y1 ?_)
    go_ret
    exact ⟨rfl, b0⟩

set_option maxRecDepth 100000 in
theorem lifted (os : Os) (started : os.Started) (H : Type) (enc : TypeId × Value → H) :
    ReturnsInHanded {} Tryd.checked os 4 .any (fun w args => (Rows.sessionTakesSpec.pre enc Tryd.prog Tryd.f4 [] false w args ∧ laidMetH Tryd.prog lay2 w) ∧ sizedMet enc Tryd.prog Tryd.f4 (OpenSpec.ofChange Rows.sessionTakesSpec) false w args)
      (Rows.sessionTakesSpec.post enc Tryd.prog Tryd.f4 false true false false) := by
  refine returnsInHanded_of_change_and (C := Tryd.checked) (X := fun w _ => laidMetH Tryd.prog lay2 w) (fun _ _ _ hh h => h.of_heap hh) own started (by kernel_rfl) Tryd.func4
    (ChangeSpec.witness_shaped (enc := enc) (C := Tryd.checked) (os := os) (X := fun w _ => laidMetH Tryd.prog lay2 w) false (World.doorLaid Tryd.prog 400 os) #[.agg (#[.string ByteArray.empty, .int .u64 0] ++ Array.replicate 32 (.int .u8 0)), .string ByteArray.empty] 8 rfl (World.shaped_of_RefB (by kernel_rfl) (by kernel_rfl)) (by kernel_rfl) (by kernel_rfl) (by kernel_rfl) (door_met os _)) ?_
  intro W base args ds gs before hval0 hW _ _ hL _
  have hval : ∀ (j : Nat) t v, Tryd.f4.params[j]? = some t → args[j]? = some v → Value.okWide Tryd.prog W .any base t v := hval0
  have hW' := hW
  obtain ⟨p, q, hA0, hV, rfl, hfz, hnd⟩ := hW
  have hA : DataW.TrodAll enc Tryd.prog W 0 (fun _ => true) true Tryd.f4.params.toList args.toList ds p := hA0
  rw [Tryd.params4] at hA hval
  obtain ⟨v0, vs0, d0, ds0, p0, q0, hargs, rfl, rfl, h0, r0⟩ := trodAll_cons hA
  obtain ⟨v1, vs1, d1, ds1, p1, q1, rfl, rfl, rfl, h1, r1⟩ := trodAll_cons r0
  obtain ⟨rfl, rfl, rfl⟩ := trodAll_nil r1
  obtain rfl : args = #[v0, v1] := by cases args; simp_all
  obtain ⟨rfl, rfl⟩ := trodVars_none hV
  obtain ⟨K0, rfl, b0⟩ := okChan (hval 0 26 v0 rfl rfl)
  have k0 := h0
  have lt0 : ∀ x ∈ p0, x.block < W.heap.size := by obtain ⟨m, hm⟩ := k0; exact DataW.trod_lt m _ _ _ hm
  obtain ⟨a1, rfl, rfl, rfl, w1⟩ := open_string Tryd.underlying9 (hval 1 9 v1 rfl rfl) h1
  have hT := of_laid hL
  clear hA0 hval0
  refine (walk K0 a1 b0 (by unfold maxLen at w1; exact w1) W hT).mono fun e W' ⟨he, bel⟩ => ?_
  subst he
  exact ⟨_, rfl, _, _, _, [], _, [], hW', trodAll_mk1 (shut_bool Tryd.underlying4 _), (trodAll_cons_mk (Below.trod laidOut (by kernel_rfl) (of_decide_eq_true (by kernel_rfl)) k0 bel lt0) (trodAll_cons_mk (shut_string Tryd.underlying9 w1) trodAll_mk0)), rfl, bel.frame _, fun h => by cases h⟩

theorem bare : Rows.SessionTakesSaid :=
  OpenClaim.holds_of_wide 4 Tryd.f4 rfl rfl rfl rfl rfl rfl rfl ⟨rfl, rfl, rfl, rfl, rfl⟩ rfl rfl rfl rfl rfl (by kernel_rfl) Tryd.func4 (by kernel_rfl)
    (of_decide_eq_true (by kernel_rfl)) (by unfold Func.isWrapper; first | (rw [if_pos (by decide +kernel)]; kernel_rfl) | (rw [if_neg (by decide +kernel)]; exact ⟨rfl, rfl⟩))
    (fun os started H enc _ => lifted os started H enc)

/-- the statement -/
theorem proved : Rows.SessionTakesCardSaid :=
  Claim7.holds_tied_plain_at .later [] [.data, .data] true Rows.sessionTakesCard.stood.harness false
    bare (fun _ h => by cases h) (by kernel_rfl) (fun _ h => by cases h) sessionTakes_row_tie rfl ⟨rfl, rfl⟩ (by kernel_rfl) rfl
    (fun f fn hf hfn => by
      obtain rfl : f = 4 := Option.some.inj ((show Tryd.prog.funcNamed "hibernacle/hibernaclelaw43.SessionTakes" = some 4 by kernel_rfl).symm.trans hf) |>.symm
      obtain rfl : fn = Tryd.f4 := (Option.some.inj (Tryd.func4.symm.trans hfn)).symm
      exact ⟨by kernel_rfl, fun j t ht => by
        rw [Tryd.params4] at ht
        have hm : t ∈ [26, 9] := by simpa using Array.mem_of_getElem? ht
        have hall : ([26, 9].all fun u => !Tryd.prog.wantsStandIn u) = true := by kernel_rfl
        exact (show Tryd.prog.wantsStandIn t = false by simpa using List.all_eq_true.1 hall t hm)⟩)
    (by kernel_rfl)
end Go.Proofs.YtaoaebdjinlcnaaDoor.sessionTakes
