/-
  For every instruction: IsaEnc answers true (its word, or the error, is the document's, and is that one's again), and the arguments read behind the call as they read before; the package tables are laid by the program's own text.
-/
import Derived.Test.YtmafeekhbcpomaaDoorRows
import Derived.Test.YtmafeekhbcpomaaDoorCards
import Derived.Test.YtmafeekhbcpomaaDoorTie
import Derived.Test.YtmafeekhbcpomaaDoorLa
import Derived.Test.YtmafeekhbcpomaaDoorLk
import Derived.WalkKit
import Derived.ProofKit
import Derived.LaidMore
import Derived.OpenShut
import Derived.ShutString
import Derived.Stop.Joined
namespace Go.Proofs.YtmafeekhbcpomaaDoor.isaEnc
open Go.ChangeShapes Go.WideShapes Go.ChangeAt Go.RowKit
open Go.ChangeMaps (open_string shut_string)
set_option linter.unusedVariables false
set_option linter.unusedSimpArgs false

theorem own : ownKnob Tryd.prog.godebug = none := by kernel_rfl
theorem door_met (os : Os) (args : Array Value) : laidMetH Tryd.prog lay4 ((World.doorLaid Tryd.prog 400 os).forCall (fun _ _ => 0) ⟨#[], args, []⟩).memory :=
  laidMetH_of_parts3 (fuel := 8) (laidMet_of_run' 8 (by kernel_rfl) (by kernel_rfl)) (by kernel_rfl) (by kernel_rfl)
theorem same_eq (x : Is.Ins) : (decide (x = x) != false) = true := by simp
set_option maxRecDepth 100000 in
set_option maxHeartbeats 1000000 in
theorem walk (ha : ∀ wr, Tab wr → Al wr) (hre : ∀ (x : Is.Ins) (w : World), x.Ok → Calls Tryd.prog 12 #[.agg (ic x)] w fun e w' => e = .returned (.tuple #[.int .u32 ((Is.enc x).1 : Nat), .int .i64 ((Is.enc x).2 : Nat)]) ∧ Below w.heap.size w w')
    (x : Is.Ins) (hx : x.Ok) (W : World) (hT : Tab W) :
    Calls Tryd.prog 3 #[.agg (ic x)] W fun e w' => e = .returned (.bool true) ∧ Below W.heap.size W w' := by
  have h1 := fun wr => enc_any x hx wr
  have h2 := fun wr => hre x wr hx
  have h3 := fun wr => dec_any (Is.enc x).1 (Is.enc_lt x) wr
  have HN : Hid ((Is.enc x).2 = 0 → Is.dec (Is.enc x).1 = (x, true)) := Lib.hid (fun h => Is.dec_enc (by rw [← h]))
  have lv := Is.enc_lt x
  obtain ⟨V, hV⟩ : ∃ V, V = W.alloc (Obj.cells (ic x) 23) := ⟨_, rfl⟩
  have st0 : At V W.heap.size x := by rw [hV]; exact at_new _ _ _
  have bV : Below W.heap.size W V := by rw [hV]; exact grow _ _
  have TV := hT.below bV
  have HV := Lib.hid hV
  clear hre hV hT
  generalize Is.enc x = r at *
  obtain ⟨v, n⟩ := r
  simp only at h1 h2 h3 lv
  replace HN : Hid (n = 0 → Is.dec v = (x, true)) := HN
  by_cases hn : n = 0
  · subst hn
    have hd := HN.out rfl
    rw [hd] at h3
    clear hd HN hx
    obtain ⟨o, a, b, c, m⟩ := x
    simp only [ic_mk] at h3
    go_enter Tryd.func3, Tryd.ntmps3
    go_wp2_with fail
    change Calls _ _ _ (W.alloc (Obj.cells (ic ⟨o, a, b, c, m⟩) 23)) _
    rw [← HV.out]
    clear HV
    refine (ha _ TV).mono ?_
    rintro e w1 ⟨rfl, b1⟩
    replace st0 := st0.below b1
    replace bV := bV.trans (b1.mono bV.size)
    clear b1 TV ha
    obtain ⟨c0, c1, c2, c3, c4⟩ := id st0
    go_wp2_with fail
    refine (h1 _).mono ?_
    rintro e w2 ⟨rfl, b1⟩
    replace st0 := st0.below b1
    replace bV := bV.trans (b1.mono bV.size)
    clear b1 c0 c1 c2 c3 c4 h1
    obtain ⟨c0, c1, c2, c3, c4⟩ := id st0
    go_wp2_with fail
    refine (h2 _).mono ?_
    rintro e w3 ⟨rfl, b1⟩
    replace st0 := st0.below b1
    replace bV := bV.trans (b1.mono bV.size)
    clear b1 c0 c1 c2 c3 c4 h2
    obtain ⟨c0, c1, c2, c3, c4⟩ := id st0
    go_wp2_with fail
    refine (h3 _).mono ?_
    rintro e w4 ⟨rfl, b1⟩
    replace st0 := st0.below b1
    replace bV := bV.trans (b1.mono bV.size)
    have z4 : W.heap.size < w4.heap.size := World.block_lt_of_cell? _ _ st0.c0
    clear b1 c0 c1 c2 c3 c4 h3
    obtain ⟨c0, c1, c2, c3, c4⟩ := id st0
    go_wp2_with (refine cmpw false ⟨o, a, b, c, m⟩ ⟨o, a, b, c, m⟩ rfl rfl rfl rfl ?_; rw [same_eq])
    go_ret
    exact ⟨rfl, bV.trans ((grow _ _).mono bV.size)⟩
  · have i1 : ((n : Int) == 0) = false := by rw [beq_eq_false_iff_ne]; omega
    have i2 : ((n : Int) != 0) = true := by rw [bne, i1]; rfl
    generalize Is.dec v = rr at *
    obtain ⟨⟨o', a', b', c', m'⟩, k'⟩ := rr
    simp only [ic_mk] at h3
    clear HN hx hn
    obtain ⟨o, a, b, c, m⟩ := x
    go_enter Tryd.func3, Tryd.ntmps3
    go_wp2_with fail
    change Calls _ _ _ (W.alloc (Obj.cells (ic ⟨o, a, b, c, m⟩) 23)) _
    rw [← HV.out]
    clear HV
    refine (ha _ TV).mono ?_
    rintro e w1 ⟨rfl, b1⟩
    replace st0 := st0.below b1
    replace bV := bV.trans (b1.mono bV.size)
    clear b1 TV ha
    obtain ⟨c0, c1, c2, c3, c4⟩ := id st0
    go_wp2_with fail
    refine (h1 _).mono ?_
    rintro e w2 ⟨rfl, b1⟩
    replace st0 := st0.below b1
    replace bV := bV.trans (b1.mono bV.size)
    clear b1 c0 c1 c2 c3 c4 h1
    obtain ⟨c0, c1, c2, c3, c4⟩ := id st0
    go_wp2_with fail
    refine (h2 _).mono ?_
    rintro e w3 ⟨rfl, b1⟩
    replace st0 := st0.below b1
    replace bV := bV.trans (b1.mono bV.size)
    clear b1 c0 c1 c2 c3 c4 h2
    obtain ⟨c0, c1, c2, c3, c4⟩ := id st0
    go_wp2_with fail
    refine (h3 _).mono ?_
    rintro e w4 ⟨rfl, b1⟩
    replace bV := bV.trans (b1.mono bV.size)
    clear b1 c0 c1 c2 c3 c4 h3
    go_wp2_with fail
    go_ret
    exact ⟨rfl, bV.trans ((grow _ _).mono bV.size)⟩

set_option maxRecDepth 100000 in
theorem lifted (os : Os) (started : os.Started) (H : Type) (enc : TypeId × Value → H) :
    ReturnsInHanded {} Tryd.checked os 3 .any (fun w args => (Rows.isaEncSpec.pre enc Tryd.prog Tryd.f3 [] false w args ∧ laidMetH Tryd.prog lay4 w) ∧ sizedMet enc Tryd.prog Tryd.f3 (OpenSpec.ofChange Rows.isaEncSpec) false w args)
      (Rows.isaEncSpec.post enc Tryd.prog Tryd.f3 false true false false) := by
  refine returnsInHanded_of_change_and (C := Tryd.checked) (X := fun w _ => laidMetH Tryd.prog lay4 w) (fun _ _ _ hh h => h.of_heap hh) own started (by kernel_rfl) Tryd.func3
    (ChangeSpec.witness_shaped (enc := enc) (C := Tryd.checked) (os := os) (X := fun w _ => laidMetH Tryd.prog lay4 w) false (World.doorLaid Tryd.prog 400 os) #[.agg #[.int .u8 0, .int .u8 0, .int .u8 0, .int .u8 0, .int .i32 0]] 8 rfl (World.shaped_of_RefB (by kernel_rfl) (by kernel_rfl)) (by kernel_rfl) (by kernel_rfl) (by kernel_rfl) (door_met os _)) ?_
  intro W base args ds gs before hval0 hW _ _ hL _
  have hval : ∀ (j : Nat) t v, Tryd.f3.params[j]? = some t → args[j]? = some v → Value.okWide Tryd.prog W .any base t v := hval0
  have hW' := hW
  obtain ⟨p, q, hA0, hV, rfl, hfz, hnd⟩ := hW
  have hA : DataW.TrodAll enc Tryd.prog W 0 (fun _ => true) true Tryd.f3.params.toList args.toList ds p := hA0
  rw [Tryd.params3] at hA hval
  obtain ⟨v0, vs0, d0, ds0, p0, q0, hargs, rfl, rfl, h0, r0⟩ := trodAll_cons hA
  obtain ⟨rfl, rfl, rfl⟩ := trodAll_nil r0
  obtain rfl : args = #[v0] := by cases args; simp_all
  obtain ⟨rfl, rfl⟩ := trodVars_none hV
  obtain ⟨K0, rfl, b0⟩ := okIns (hval 0 23 v0 rfl rfl)
  have k0 := h0
  have lt0 : ∀ x ∈ p0, x.block < W.heap.size := by obtain ⟨m, hm⟩ := k0; exact DataW.trod_lt m _ _ _ hm
  have hT := of_laid hL
  clear hA0 hval0
  refine (walk (fun wr T => al_any wr T) (fun x w hx => renc_any x hx w) K0 b0 W hT).mono fun e W' ⟨he, bel⟩ => ?_
  subst he
  exact ⟨_, rfl, _, _, _, [], _, [], hW', trodAll_mk1 (shut_bool Tryd.underlying4 _), (trodAll_cons_mk (Below.trod laidOut (by kernel_rfl) (of_decide_eq_true (by kernel_rfl)) k0 bel lt0) trodAll_mk0), rfl, bel.frame _, fun h => by cases h⟩

theorem bare : Rows.IsaEncSaid :=
  OpenClaim.holds_of_wide 3 Tryd.f3 rfl rfl rfl rfl rfl rfl rfl ⟨rfl, rfl, rfl, rfl, rfl⟩ rfl rfl rfl rfl rfl (by kernel_rfl) Tryd.func3 (by kernel_rfl)
    (of_decide_eq_true (by kernel_rfl)) (by unfold Func.isWrapper; first | (rw [if_pos (by decide +kernel)]; kernel_rfl) | (rw [if_neg (by decide +kernel)]; exact ⟨rfl, rfl⟩))
    (fun os started H enc _ => lifted os started H enc)

/-- the statement -/
theorem proved : Rows.IsaEncCardSaid :=
  Claim7.holds_tied_plain_at .later [] [.data, .data, .data, .data] true Rows.isaEncCard.stood.harness false
    bare (fun _ h => by cases h) (by kernel_rfl) (fun _ h => by cases h) isaEnc_row_tie rfl ⟨rfl, rfl⟩ (by kernel_rfl) rfl
    (fun f fn hf hfn => by
      obtain rfl : f = 3 := Option.some.inj ((show Tryd.prog.funcNamed "hibernacle/hibernaclelaw10.IsaEnc" = some 3 by kernel_rfl).symm.trans hf) |>.symm
      obtain rfl : fn = Tryd.f3 := (Option.some.inj (Tryd.func3.symm.trans hfn)).symm
      exact ⟨by kernel_rfl, fun j t ht => by
        rw [Tryd.params3] at ht
        have hm : t ∈ [23] := by simpa using Array.mem_of_getElem? ht
        have hall : ([23].all fun u => !Tryd.prog.wantsStandIn u) = true := by kernel_rfl
        exact (show Tryd.prog.wantsStandIn t = false by simpa using List.all_eq_true.1 hall t hm)⟩)
    (by kernel_rfl)
end Go.Proofs.YtmafeekhbcpomaaDoor.isaEnc
