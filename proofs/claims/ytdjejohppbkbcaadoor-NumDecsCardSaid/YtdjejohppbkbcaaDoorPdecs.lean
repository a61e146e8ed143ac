/-
  For every number and every text the law NumDecs of package num returns true: the decimal text, and the number, are the document's, and the arguments read behind the call as they read before; the package variables are laid by the program's own text.
-/
import Derived.Test.YtdjejohppbkbcaaDoorRows
import Derived.Test.YtdjejohppbkbcaaDoorCards
import Derived.Test.YtdjejohppbkbcaaDoorTie
import Derived.Test.YtdjejohppbkbcaaDoorDa
import Derived.Test.YtdjejohppbkbcaaDoorDr
import Derived.Test.YtdjejohppbkbcaaDoorNa
import Derived.Test.YtdjejohppbkbcaaDoorOk
import Derived.WalkKit
import Derived.ProofKit
import Derived.LaidMore
import Derived.OpenShut
import Derived.ShutString
import Derived.Stop.Joined
namespace Go.Proofs.YtdjejohppbkbcaaDoor.numDecs
open Go.ChangeShapes Go.WideShapes Go.ChangeAt Go.RowKit
open Go.ChangeMaps (open_string shut_string)
set_option linter.unusedVariables false
set_option linter.unusedSimpArgs false

theorem own : ownKnob Tryd.prog.godebug = none := by kernel_rfl
theorem door_met (os : Os) (args : Array Value) : laidMetH Tryd.prog lay5 ((World.doorLaid Tryd.prog 400 os).forCall (fun _ _ => 0) ⟨#[], args, []⟩).memory :=
  laidMetH_of_parts3 (fuel := 8) (laidMet_of_run' 8 (by kernel_rfl) (by kernel_rfl)) (by kernel_rfl) (by kernel_rfl)
open Go.Proofs.YtdjejohppbkbcaaDoor.Dm Go.Proofs.YtdjejohppbkbcaaDoor.Nm
theorem cdec (n : Int) (hn : In n) (w : World) (T : Tb w) : Calls Tryd.prog 7 #[.int .i64 n] w fun e w' => e = .returned (.string (it n)) ∧ Below w.heap.size w w' := dec_any n hn w T
theorem cint (m : Int) (hm : In m) (w : World) (T : Tb w) : Calls Tryd.prog 5 #[.string (it m)] w fun e w' => e = .returned (.tuple #[.int .i64 m, .bool true]) ∧ Below w.heap.size w w' := int_yes m hm w T
set_option maxRecDepth 100000 in
set_option maxHeartbeats 2000000 in
theorem walk (n : Int) (s : ByteArray) (w0 : In n) (w1 : s.size ≤ 9223372036854775807) (w : World) (T : Tb w) :
    Calls Tryd.prog 3 #[.int .i64 n, .string s] w fun e w' => e = .returned (.bool true) ∧ Below w.heap.size w w' := by
  have HD := Lib.hid (cdec n w0)
  have HI := Lib.hid (cint n w0)
  have HR := Lib.hid (rdec_in n w0)
  clear w0
  by_cases h1 : 2000 < s.size
  · go_enter Tryd.func3, Tryd.ntmps3
    go_wp2_with fail
    refine (alive_any _).mono ?_
    rintro e w1 ⟨rfl, hb⟩
    go_wp2_with fail
    go_ret
    exact ⟨rfl, hb⟩
  · by_cases hyes : ∃ m, In m ∧ s = it m
    · obtain ⟨m, hm, rfl⟩ := hyes
      have HM := Lib.hid (cint m hm)
      have HN := Lib.hid (rint_yes m hm)
      have HE := Lib.hid (cdec m hm)
      clear hm
      generalize it m = s at *
      generalize it n = z at *
      go_enter Tryd.func3, Tryd.ntmps3
      go_wp2_with fail
      refine (alive_any _).mono ?_
      rintro e w1 ⟨rfl, hb⟩
      have T1 := T.below hb
      go_wp2_with fail
      refine (HM.out _ T1).mono ?_
      rintro e w2 ⟨rfl, hb2⟩
      have T2 := T1.below hb2
      replace hb := hb.trans (hb2.mono hb.size)
      clear hb2 T1
      go_wp2_with fail
      refine (HN.out _).mono ?_
      rintro e w3 ⟨rfl, hb2⟩
      have T3 := T2.below hb2
      replace hb := hb.trans (hb2.mono hb.size)
      clear hb2 T2
      go_wp2_with fail
      refine (HD.out _ T3).mono ?_
      rintro e w4 ⟨rfl, hb2⟩
      have T4 := T3.below hb2
      replace hb := hb.trans (hb2.mono hb.size)
      clear hb2 T3
      go_wp2_with fail
      refine (HI.out _ T4).mono ?_
      rintro e w5 ⟨rfl, hb2⟩
      have T5 := T4.below hb2
      replace hb := hb.trans (hb2.mono hb.size)
      clear hb2 T4
      go_wp2_with fail
      refine (HD.out _ T5).mono ?_
      rintro e w6 ⟨rfl, hb2⟩
      have T6 := T5.below hb2
      replace hb := hb.trans (hb2.mono hb.size)
      clear hb2 T5
      go_wp2_with fail
      refine (HR.out _).mono ?_
      rintro e w7 ⟨rfl, hb2⟩
      have T7 := T6.below hb2
      replace hb := hb.trans (hb2.mono hb.size)
      clear hb2 T6
      go_wp2_with fail
      refine (HE.out _ T7).mono ?_
      rintro e w8 ⟨rfl, hb2⟩
      replace hb := hb.trans (hb2.mono hb.size)
      clear hb2 T7
      go_wp2_with fail
      go_ret
      exact ⟨rfl, hb⟩
    · have hno : ∀ m, In m → s ≠ it m := fun m hm e => hyes ⟨m, hm, e⟩
      have HM := Lib.hid (int_no s (by omega) hno)
      have HN := Lib.hid (rint_no s hno (by omega))
      clear hno hyes
      generalize it n = z at *
      go_enter Tryd.func3, Tryd.ntmps3
      go_wp2_with fail
      refine (alive_any _).mono ?_
      rintro e w1 ⟨rfl, hb⟩
      have T1 := T.below hb
      go_wp2_with fail
      refine (HM.out _ T1).mono ?_
      rintro e w2 ⟨rfl, hb2⟩
      have T2 := T1.below hb2
      replace hb := hb.trans (hb2.mono hb.size)
      clear hb2 T1
      go_wp2_with fail
      refine (HN.out _).mono ?_
      rintro e w3 ⟨rfl, hb2⟩
      have T3 := T2.below hb2
      replace hb := hb.trans (hb2.mono hb.size)
      clear hb2 T2
      go_wp2_with fail
      refine (HD.out _ T3).mono ?_
      rintro e w4 ⟨rfl, hb2⟩
      have T4 := T3.below hb2
      replace hb := hb.trans (hb2.mono hb.size)
      clear hb2 T3
      go_wp2_with fail
      refine (HI.out _ T4).mono ?_
      rintro e w5 ⟨rfl, hb2⟩
      have T5 := T4.below hb2
      replace hb := hb.trans (hb2.mono hb.size)
      clear hb2 T4
      go_wp2_with fail
      refine (HD.out _ T5).mono ?_
      rintro e w6 ⟨rfl, hb2⟩
      have T6 := T5.below hb2
      replace hb := hb.trans (hb2.mono hb.size)
      clear hb2 T5
      go_wp2_with fail
      refine (HR.out _).mono ?_
      rintro e w7 ⟨rfl, hb2⟩
      replace hb := hb.trans (hb2.mono hb.size)
      clear hb2 T6
      go_wp2_with fail
      go_ret
      exact ⟨rfl, hb⟩

set_option maxRecDepth 100000 in
theorem lifted (os : Os) (started : os.Started) (H : Type) (enc : TypeId × Value → H) :
    ReturnsInHanded {} Tryd.checked os 3 .any (fun w args => (Rows.numDecsSpec.pre enc Tryd.prog Tryd.f3 [] false w args ∧ laidMetH Tryd.prog lay5 w) ∧ sizedMet enc Tryd.prog Tryd.f3 (OpenSpec.ofChange Rows.numDecsSpec) false w args)
      (Rows.numDecsSpec.post enc Tryd.prog Tryd.f3 false true false false) := by
  refine returnsInHanded_of_change_and (C := Tryd.checked) (X := fun w _ => laidMetH Tryd.prog lay5 w) (fun _ _ _ hh h => h.of_heap hh) own started (by kernel_rfl) Tryd.func3
    (ChangeSpec.witness_shaped (enc := enc) (C := Tryd.checked) (os := os) (X := fun w _ => laidMetH Tryd.prog lay5 w) false (World.doorLaid Tryd.prog 400 os) #[.int .i64 0, .string ByteArray.empty] 8 rfl (World.shaped_of_RefB (by kernel_rfl) (by kernel_rfl)) (by kernel_rfl) (by kernel_rfl) (by kernel_rfl) (door_met os _)) ?_
  intro W base args ds gs before hval0 hW _ _ hL _
  have hval : ∀ (j : Nat) t v, Tryd.f3.params[j]? = some t → args[j]? = some v → Value.okWide Tryd.prog W .any base t v := hval0
  have hW' := hW
  obtain ⟨p, q, hA0, hV, rfl, hfz, hnd⟩ := hW
  have hA : DataW.TrodAll enc Tryd.prog W 0 (fun _ => true) true Tryd.f3.params.toList args.toList ds p := hA0
  rw [Tryd.params3] at hA hval
  obtain ⟨v0, vs0, d0, ds0, p0, q0, hargs, rfl, rfl, h0, r0⟩ := trodAll_cons hA
  obtain ⟨v1, vs1, d1, ds1, p1, q1, rfl, rfl, rfl, h1, r1⟩ := trodAll_cons r0
  obtain ⟨rfl, rfl, rfl⟩ := trodAll_nil r1
  obtain rfl : args = #[v0, v1] := by cases args; simp_all
  obtain ⟨rfl, rfl⟩ := trodVars_none hV
  obtain ⟨n0, rfl, rfl, rfl, w0⟩ := open_int Tryd.underlying2 (hval 0 2 v0 rfl rfl) h0
  obtain ⟨a1, rfl, rfl, rfl, w1⟩ := open_string Tryd.underlying9 (hval 1 9 v1 rfl rfl) h1
  have hT := of_laid hL
  clear hA0 hval0
  refine (walk n0 a1 (wf_i64' w0) (by unfold maxLen at w1; exact w1) W hT).mono fun e W' ⟨he, bel⟩ => ?_
  subst he
  exact ⟨_, rfl, _, _, _, [], _, [], hW', trodAll_mk1 (shut_bool Tryd.underlying4 _), (trodAll_cons_mk (shut_int Tryd.underlying2 w0) (trodAll_cons_mk (shut_string Tryd.underlying9 w1) trodAll_mk0)), rfl, bel.frame _, fun h => by cases h⟩

theorem bare : Rows.NumDecsSaid :=
  OpenClaim.holds_of_wide 3 Tryd.f3 rfl rfl rfl rfl rfl rfl rfl ⟨rfl, rfl, rfl, rfl, rfl⟩ rfl rfl rfl rfl rfl (by kernel_rfl) Tryd.func3 (by kernel_rfl)
    (of_decide_eq_true (by kernel_rfl)) (by unfold Func.isWrapper; first | (rw [if_pos (by decide +kernel)]; kernel_rfl) | (rw [if_neg (by decide +kernel)]; exact ⟨rfl, rfl⟩))
    (fun os started H enc _ => lifted os started H enc)

/-- the statement -/
theorem proved : Rows.NumDecsCardSaid :=
  Claim7.holds_tied_plain_at .later [] [.data, .data, .data, .sentinel, .sentinel] true Rows.numDecsCard.stood.harness true
    bare (fun _ h => by cases h) (by kernel_rfl) (fun _ h => by cases h) numDecs_row_tie rfl ⟨rfl, rfl⟩ (by kernel_rfl) rfl
    (fun f fn hf hfn => by
      obtain rfl : f = 3 := Option.some.inj ((show Tryd.prog.funcNamed "hibernacle/hibernaclelaw01.NumDecs" = some 3 by kernel_rfl).symm.trans hf) |>.symm
      obtain rfl : fn = Tryd.f3 := (Option.some.inj (Tryd.func3.symm.trans hfn)).symm
      exact ⟨by kernel_rfl, fun j t ht => by
        rw [Tryd.params3] at ht
        have hm : t ∈ [2, 9] := by simpa using Array.mem_of_getElem? ht
        have hall : ([2, 9].all fun u => !Tryd.prog.wantsStandIn u) = true := by kernel_rfl
        exact (show Tryd.prog.wantsStandIn t = false by simpa using List.all_eq_true.1 hall t hm)⟩)
    (by kernel_rfl)
end Go.Proofs.YtdjejohppbkbcaaDoor.numDecs
