/-
  For every end of a channel and every number: SessionFar answers true (a thousand messages may be lost in a row, and no more), and the arguments read behind the call as they read before; the package variables are laid by the program's own text.
-/
import Derived.Test.YtaoaebdjinlcnaaDoorRows
import Derived.Test.YtaoaebdjinlcnaaDoorCards
import Derived.Test.YtaoaebdjinlcnaaDoorTie
import Derived.Test.YtaoaebdjinlcnaaDoorVk
import Derived.Test.YtaoaebdjinlcnaaDoorLa
import Derived.WalkKit
import Derived.ProofKit
import Derived.LaidMore
import Derived.OpenShut
import Derived.ShutString
import Derived.Stop.Joined
namespace Go.Proofs.YtaoaebdjinlcnaaDoor.sessionFar
open Go.ChangeShapes Go.WideShapes Go.ChangeAt Go.RowKit
open Go.ChangeMaps (open_string shut_string)
set_option linter.unusedVariables false
set_option linter.unusedSimpArgs false

theorem own : ownKnob Tryd.prog.godebug = none := by kernel_rfl
theorem door_met (os : Os) (args : Array Value) : laidMetH Tryd.prog lay2 ((World.doorLaid Tryd.prog 400 os).forCall (fun _ _ => 0) ⟨#[], args, []⟩).memory :=
  laidMetH_of_parts3 (fuel := 8) (laidMet_of_run' 8 (by kernel_rfl) (by kernel_rfl)) (by kernel_rfl) (by kernel_rfl)
def frI (c : Ch) (i : Nat) : ByteArray := if i = 0 then ⟨#[]⟩ else frameD (ahead c (i - 1)) xx
theorem bld26zw {ops : Array Oper} {rest : List Oper} {o : Oper} {a : Act} {w : World} {Q : Exit → Act → World → Prop}
    (hgd : Region.wanted o (yielded ops a.tmps) = true) (ho : o.op = .build 26 #[]) (h : wpList Tryd.prog ops Q rest (a.put o.dst (.agg (chv zCh))) w) : wpList Tryd.prog ops Q (o :: rest) a w := wanted_step hgd (by
  have hb := run_build (P := Tryd.prog) w 26 #[] (chv zCh) built26z
  unfold Oper.wp execOp
  simp only [ho]
  simp [hb, Result.andThen]
  exact h)
set_option maxRecDepth 100000 in
set_option maxHeartbeats 8000000 in
theorem walk (c : Ch) (m : Nat) (hc : c.Ok) (hm : m < 256) (w : World) (hT : Tab w) :
    Calls Tryd.prog 8 #[.agg (chv c), .int .u8 (m : Int)] w fun e w' => e = .returned (.bool true) ∧ Below w.heap.size w w' := by
  have hfx := fun wr (h : Below w.heap.size w wr) => fixed_any wr (hT.below h)
  have k0 := Cb.new w c hc.k
  have b0 := grow w (Obj.cells (chv c) 26)
  go_enter Tryd.func8, Tryd.ntmps8
  go_upto_region 1 with fail
  generalize w.alloc (Obj.cells (chv c) 26) = W0 at *
  have c0 := k0.c0
  have c1 := k0.c1
  by_cases hbig : 100 < c.m.size ∨ 1152921504606846976 < c.n
  · have dd : 100 < (c.m.size : Int) ∨ (¬ 100 < (c.m.size : Int) ∧ 1152921504606846976 < (c.n : Int)) := by omega
    rcases dd with d0 | ⟨d0, d3⟩ <;>
    · go_wp2_with fail
      refine (hfx _ b0).mono ?_
      rintro e w1 ⟨rfl, hx⟩
      replace b0 := b0.trans (hx.mono b0.size)
      go_wp2_with fail
      go_ret
      exact ⟨rfl, b0⟩
  · have d0 : ¬ 100 < (c.m.size : Int) := by omega
    have d3 : ¬ 1152921504606846976 < (c.n : Int) := by omega
    have zx : (xx : ByteArray).size = 1 := by decide
    have hs := fun i (hi : i ≤ 1003) wr (h : Below w.heap.size w wr) => send_any (ahead c i) xx wr (ahead_ok hc i (by omega)) (hT.below h) (by show c.m.size ≤ _; omega) (.inl (by omega))
    have hse := fun i (hi : i ≤ 1003) => (show sendR (ahead c i) xx = (ahead c (i + 1), frI c (i + 1), 0) from send_ok (ahead c i) xx (by omega) (by show c.n + i < _; omega))
    have hlk := fun i => it_len hc.k i
    obtain ⟨q, hq⟩ : ∃ q, 999 + m % 4 = q := ⟨_, rfl⟩
    have hq2 : q ≤ 1002 := by omega
    have e0 : IntKind.i64.wrap (m : Int) = (m : Int) := IntWalk.i64_in _ (by omega)
    have e1 : (m : Int).tmod 4 = ((m % 4 : Nat) : Int) := rfl
    have e2 : (m : Int) % 4 = ((m % 4 : Nat) : Int) := rfl
    have e3 : IntKind.i64.wrap (((m % 4 : Nat) : Int)) = ((m % 4 : Nat) : Int) := IntWalk.i64_in _ (by omega)
    have e4 : IntKind.i64.wrap (999 + ((m % 4 : Nat) : Int)) = (q : Int) := by rw [IntWalk.i64_in _ (by omega)]; omega
    have e5 : IntKind.i64.wrap ((q : Int) + 1) = ((q + 1 : Nat) : Int) := by rw [IntWalk.i64_in _ (by omega)]; omega
    generalize hr4 : m % 4 = r at *
    go_upto_region 4 with fail
    clear c0 c1
    have x1 := Cb.new W0 c hc.k
    have hx := grow W0 (Obj.cells (chv c) 26)
    have hl1 := k0.lt
    have kk := k0.below hx
    replace b0 := b0.trans (hx.mono b0.size)
    clear hx
    go_wp2_with (first | refine ld26 rfl rfl rfl k0 ?_ | refine sto26n (d := c) hc.k rfl rfl rfl rfl rfl ?_)
    clear k0
    have k0 := kk
    clear kk
    generalize W0.alloc (Obj.cells (chv c) 26) = V0 at *
    generalize W0.heap.size = g6 at *
    go_loopw [7, 8, 29] (fun s7 s8 s29 wr => ∃ i : Nat, i ≤ q + 1 ∧ s29 = .int .i64 (i : Int) ∧ s7 = .string (frI c i) ∧ s8 = .int .i64 0 ∧ Cb wr g6 (ahead c i) ∧ Cb wr w.heap.size c ∧ Below w.heap.size w wr) (fun _ _ s29 _ => q + 1 - (intOf s29).toNat)
    case atStart => exact ⟨0, by omega, rfl, rfl, rfl, x1, k0, b0⟩
    case round =>
      clear x1 k0 b0
      obtain ⟨i, hi, rfl, rfl, rfl, x1, k0, b0⟩ := hrel
      by_cases hil : i < q + 1
      · have hil' : (i : Int) < ((q + 1 : Nat) : Int) := by omega
        have e6 : IntKind.i64.wrap ((i : Int) + 1) = ((i + 1 : Nat) : Int) := by rw [IntWalk.i64_in _ (by omega)]; omega
        have h1 := hs i (by omega) wr b0
        rw [hse i (by omega)] at h1
        go_wp2_with (first | refine ld26 rfl rfl rfl x1 ?_)
        refine h1.mono ?_
        rintro e wr2 ⟨rfl, hx⟩
        have x2 := x1.below hx
        have k2 := k0.below hx
        have b2 := b0.trans (hx.mono b0.size)
        dsimp only [rsv]
        clear x1 k0 b0 hx h1
        go_wp2_with (first | refine sto26 (d := ahead c (i + 1)) (hlk (i + 1)) rfl rfl rfl rfl x2 ?_)
        exact ⟨⟨i + 1, by omega, rfl, rfl, rfl, x2.row _ (hlk (i + 1)), k2.rowOther _ (by omega), below_row b2 (by omega) _⟩, by simp [intOf]; omega⟩
      · obtain rfl : i = q + 1 := by omega
        have hil' : ¬ ((q + 1 : Nat) : Int) < ((q + 1 : Nat) : Int) := by omega
        have hfi : frI c (q + 1) = frameD (ahead c q) xx := rfl
        have zf := frame_size (ahead c q) xx (by show c.m.size ≤ _; omega) (by omega)
        have zm : (ahead c q).m.size ≤ 100 := by show c.m.size ≤ _; omega
        have ht := stake_any c (frameD (ahead c q) xx) wr hc (hT.below b0) (by omega) (by omega)
        by_cases hfar : 1000 < q
        · have hf' : 1000 < (q : Int) := by omega
          rw [show takeR c (frameD (ahead c q) xx) = bad 6 from take_far c (ahead c q) xx (by show c.n + q < _; omega) (by omega) (by omega) rfl (by show c.n ≤ c.n + q; omega) (by show 1000 < c.n + q - c.n; omega)] at ht
          rw [hfi]
          generalize frameD (ahead c q) xx = F at *
          go_wp2_with (first | refine ld26 rfl rfl rfl k0 ?_)
          refine ht.mono ?_
          rintro e w1 ⟨rfl, hx⟩
          replace b0 := b0.trans (hx.mono b0.size)
          dsimp only [rsv, bad]
          have y1 := Cb.new w1 zCh zCh_ok.k
          have hg := grow w1 (Obj.cells (chv zCh) 26)
          replace b0 := b0.trans (hg.mono b0.size)
          go_wp2_with (first | refine sto26n (d := zCh) zCh_ok.k rfl rfl rfl rfl rfl ?_)
          generalize w1.alloc (Obj.cells (chv zCh) 26) = w2 at *
          refine (hfx _ b0).mono ?_
          rintro e w3 ⟨rfl, hx2⟩
          have y2 := y1.below hx2
          replace b0 := b0.trans (hx2.mono b0.size)
          go_wp2_with (first | refine ld26w (by kernel_rfl) rfl rfl y2 ?_ | refine bld26zw (by kernel_rfl) rfl ?_ | refine eq26w zCh_ok.k (by kernel_rfl) rfl rfl rfl ?_)
          go_ret
          exact ⟨rfl, b0⟩
        · have hf' : ¬ 1000 < (q : Int) := by omega
          have hxx : xx.toList = [120] := by decide +kernel
          rw [show takeR c (frameD (ahead c q) xx) = (ahead c (q + 1), xx, 0) from take_ahead c 0 q xx (by omega) (by omega) (by omega) (by omega) (by omega)] at ht
          rw [hfi]
          have hk1 := hlk (q + 1)
          have hk2 : (ahead c (q + 1)).K.length = 32 := hk1
          generalize frameD (ahead c q) xx = F at *
          generalize ahead c (q + 1) = C1 at *
          go_wp2_with (first | refine ld26 rfl rfl rfl k0 ?_)
          refine ht.mono ?_
          rintro e w1 ⟨rfl, hx⟩
          have x2 := x1.below hx
          replace b0 := b0.trans (hx.mono b0.size)
          dsimp only [rsv]
          have y1 := Cb.new w1 C1 hk2
          have hg := grow w1 (Obj.cells (chv C1) 26)
          have x3 := x2.below hg
          replace b0 := b0.trans (hg.mono b0.size)
          go_wp2_with (first | refine sto26n (d := C1) hk2 rfl rfl rfl rfl rfl ?_)
          generalize w1.alloc (Obj.cells (chv C1) 26) = w2 at *
          refine (hfx _ b0).mono ?_
          rintro e w3 ⟨rfl, hx2⟩
          have y4 := y1.below hx2
          have x4 := x3.below hx2
          replace b0 := b0.trans (hx2.mono b0.size)
          go_wp2_with (first | refine ld26w (by kernel_rfl) rfl rfl y4 ?_ | refine ld26w (by kernel_rfl) rfl rfl x4 ?_ | refine eq26w hk2 (by kernel_rfl) rfl rfl rfl ?_)
          go_ret
          exact ⟨rfl, b0⟩

set_option maxRecDepth 100000 in
theorem lifted (os : Os) (started : os.Started) (H : Type) (enc : TypeId × Value → H) :
    ReturnsInHanded {} Tryd.checked os 8 .any (fun w args => (Rows.sessionFarSpec.pre enc Tryd.prog Tryd.f8 [] false w args ∧ laidMetH Tryd.prog lay2 w) ∧ sizedMet enc Tryd.prog Tryd.f8 (OpenSpec.ofChange Rows.sessionFarSpec) false w args)
      (Rows.sessionFarSpec.post enc Tryd.prog Tryd.f8 false true false false) := by
  refine returnsInHanded_of_change_and (C := Tryd.checked) (X := fun w _ => laidMetH Tryd.prog lay2 w) (fun _ _ _ hh h => h.of_heap hh) own started (by kernel_rfl) Tryd.func8
    (ChangeSpec.witness_shaped (enc := enc) (C := Tryd.checked) (os := os) (X := fun w _ => laidMetH Tryd.prog lay2 w) false (World.doorLaid Tryd.prog 400 os) #[.agg (#[.string ByteArray.empty, .int .u64 0] ++ Array.replicate 32 (.int .u8 0)), .int .u8 0] 8 rfl (World.shaped_of_RefB (by kernel_rfl) (by kernel_rfl)) (by kernel_rfl) (by kernel_rfl) (by kernel_rfl) (door_met os _)) ?_
  intro W base args ds gs before hval0 hW _ _ hL _
  have hval : ∀ (j : Nat) t v, Tryd.f8.params[j]? = some t → args[j]? = some v → Value.okWide Tryd.prog W .any base t v := hval0
  have hW' := hW
  obtain ⟨p, q, hA0, hV, rfl, hfz, hnd⟩ := hW
  have hA : DataW.TrodAll enc Tryd.prog W 0 (fun _ => true) true Tryd.f8.params.toList args.toList ds p := hA0
  rw [Tryd.params8] at hA hval
  obtain ⟨v0, vs0, d0, ds0, p0, q0, hargs, rfl, rfl, h0, r0⟩ := trodAll_cons hA
  obtain ⟨v1, vs1, d1, ds1, p1, q1, rfl, rfl, rfl, h1, r1⟩ := trodAll_cons r0
  obtain ⟨rfl, rfl, rfl⟩ := trodAll_nil r1
  obtain rfl : args = #[v0, v1] := by cases args; simp_all
  obtain ⟨rfl, rfl⟩ := trodVars_none hV
  obtain ⟨K0, rfl, b0⟩ := okChan (hval 0 26 v0 rfl rfl)
  have k0 := h0
  have lt0 : ∀ x ∈ p0, x.block < W.heap.size := by obtain ⟨m, hm⟩ := k0; exact DataW.trod_lt m _ _ _ hm
  obtain ⟨n1, rfl, rfl, rfl, w1⟩ := open_int Tryd.underlying5 (hval 1 5 v1 rfl rfl) h1
  obtain ⟨m1, rfl, z1⟩ := nat_u8 w1
  have hT := of_laid hL
  clear hA0 hval0
  refine (walk K0 m1 b0 z1 W hT).mono fun e W' ⟨he, bel⟩ => ?_
  subst he
  exact ⟨_, rfl, _, _, _, [], _, [], hW', trodAll_mk1 (shut_bool Tryd.underlying4 _), (trodAll_cons_mk (Below.trod laidOut (by kernel_rfl) (of_decide_eq_true (by kernel_rfl)) k0 bel lt0) (trodAll_cons_mk (shut_int Tryd.underlying5 w1) trodAll_mk0)), rfl, bel.frame _, fun h => by cases h⟩

theorem bare : Rows.SessionFarSaid :=
  OpenClaim.holds_of_wide 8 Tryd.f8 rfl rfl rfl rfl rfl rfl rfl ⟨rfl, rfl, rfl, rfl, rfl⟩ rfl rfl rfl rfl rfl (by kernel_rfl) Tryd.func8 (by kernel_rfl)
    (of_decide_eq_true (by kernel_rfl)) (by unfold Func.isWrapper; first | (rw [if_pos (by decide +kernel)]; kernel_rfl) | (rw [if_neg (by decide +kernel)]; exact ⟨rfl, rfl⟩))
    (fun os started H enc _ => lifted os started H enc)

/-- the statement -/
theorem proved : Rows.SessionFarCardSaid :=
  Claim7.holds_tied_plain_at .later [] [.data, .data] true Rows.sessionFarCard.stood.harness false
    bare (fun _ h => by cases h) (by kernel_rfl) (fun _ h => by cases h) sessionFar_row_tie rfl ⟨rfl, rfl⟩ (by kernel_rfl) rfl
    (fun f fn hf hfn => by
      obtain rfl : f = 8 := Option.some.inj ((show Tryd.prog.funcNamed "hibernacle/hibernaclelaw43.SessionFar" = some 8 by kernel_rfl).symm.trans hf) |>.symm
      obtain rfl : fn = Tryd.f8 := (Option.some.inj (Tryd.func8.symm.trans hfn)).symm
      exact ⟨by kernel_rfl, fun j t ht => by
        rw [Tryd.params8] at ht
        have hm : t ∈ [26, 5] := by simpa using Array.mem_of_getElem? ht
        have hall : ([26, 5].all fun u => !Tryd.prog.wantsStandIn u) = true := by kernel_rfl
        exact (show Tryd.prog.wantsStandIn t = false by simpa using List.all_eq_true.1 hall t hm)⟩)
    (by kernel_rfl)
end Go.Proofs.YtaoaebdjinlcnaaDoor.sessionFar
