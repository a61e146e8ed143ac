/-
  For every minute the law DayWeeks of package day returns true; there is no condition.
-/
import Derived.Test.YtgjpopndjnbkaaaRows
import Derived.WalkKit
import Derived.ProofKit
import Derived.OpenShut
import Derived.ShutString
import Derived.Below
import Derived.Test.YtgjpopndjnbkaaaAw
namespace Go.Proofs.Ytgjpopndjnbkaaa.dayWeeks
open Go.ChangeShapes Go.WideShapes Go.ChangeAt Go.RowKit
open Go.ChangeMaps (open_string shut_string)
set_option linter.unusedVariables false

theorem own : ownKnob Try.prog.godebug = none := by kernel_rfl

open Go.Proofs.Ytgjpopndjnbkaaa in
set_option maxRecDepth 100000 in
set_option maxHeartbeats 1000000 in
theorem walk (a0 : Int) (w0 : (Lit.int .i64 a0).wf = true) (w : World) :
    Calls Try.prog 7 #[.int .i64 a0] w fun e w' => e = .returned (.bool true) ∧ Below w.heap.size w w' := by
  have h := bounds_i64 w0
  have hD : D0 a0 := by unfold D0; omega
  have hb := Below.refl w.heap.size w
  by_cases g0 : 1125899906842624 < a0
  · go_enter Try.func7, Try.ntmps7
    go_wp2_with fail
    refine (awake_any _).mono ?_
    rintro e w17 ⟨rfl, hx⟩
    replace hb := hb.trans (hx.mono hb.size)
    clear hx
    go_wp2_with fail
    go_ret
    exact ⟨rfl, hb⟩
  by_cases g1 : a0 < -1125899906842624
  · go_enter Try.func7, Try.ntmps7
    go_wp2_with fail
    refine (awake_any _).mono ?_
    rintro e w18 ⟨rfl, hx⟩
    replace hb := hb.trans (hx.mono hb.size)
    clear hx
    go_wp2_with fail
    go_ret
    exact ⟨rfl, hb⟩
  have hE : D0 (a0 + 10080) := by unfold D0; omega
  have hF : D0 (a0 + 1) := by unfold D0; omega
  obtain ⟨e1, e2⟩ := Cal.week_later a0
  have hd := hD.day
  have hm1 : -4000000000000000 ≤ Cal.week a0 ∧ Cal.week a0 ≤ 4000000000000000 := by unfold Cal.week; omega
  by_cases hs : Cal.day (a0 + 1) = Cal.day a0
  · have hw : Cal.week (a0 + 1) = Cal.week a0 := by unfold Cal.week; rw [hs]
    go_enter Try.func7, Try.ntmps7
    go_wp2_with fail
    refine (day_any _ _ hF).mono ?_
    rintro e w19 ⟨rfl, hx⟩
    replace hb := below_dr hb hx
    clear hx
    go_wp2_with fail
    refine (day_any _ _ hD).mono ?_
    rintro e w20 ⟨rfl, hx⟩
    replace hb := below_dr hb hx
    clear hx
    go_wp2_with fail
    refine (week_any _ _ hE).mono ?_
    rintro e w21 ⟨rfl, hx⟩
    replace hb := below_dr hb hx
    clear hx
    go_wp2_with fail
    refine (week_any _ _ hD).mono ?_
    rintro e w22 ⟨rfl, hx⟩
    replace hb := below_dr hb hx
    clear hx
    go_wp2_with fail
    refine (day_any _ _ hE).mono ?_
    rintro e w23 ⟨rfl, hx⟩
    replace hb := below_dr hb hx
    clear hx
    go_wp2_with fail
    refine (day_any _ _ hD).mono ?_
    rintro e w24 ⟨rfl, hx⟩
    replace hb := below_dr hb hx
    clear hx
    go_wp2_with fail
    refine (week_any _ _ hF).mono ?_
    rintro e w25 ⟨rfl, hx⟩
    replace hb := below_dr hb hx
    clear hx
    go_wp2_with fail
    refine (week_any _ _ hD).mono ?_
    rintro e w26 ⟨rfl, hx⟩
    replace hb := below_dr hb hx
    clear hx
    go_wp2_with fail
    refine (awake_any _).mono ?_
    rintro e w27 ⟨rfl, hx⟩
    replace hb := hb.trans (hx.mono hb.size)
    clear hx
    go_wp2_with fail
    go_ret
    exact ⟨rfl, hb⟩
  · have hs1 : (Cal.day (a0 + 1) == Cal.day a0) = false := by rw [beq_eq_false_iff_ne]; exact hs
    have hs2 : decide (Cal.day (a0 + 1) = Cal.day a0) = false := by simp [hs]
    go_enter Try.func7, Try.ntmps7
    go_wp2_with fail
    refine (day_any _ _ hF).mono ?_
    rintro e w28 ⟨rfl, hx⟩
    replace hb := below_dr hb hx
    clear hx
    go_wp2_with fail
    refine (day_any _ _ hD).mono ?_
    rintro e w29 ⟨rfl, hx⟩
    replace hb := below_dr hb hx
    clear hx
    go_wp2_with fail
    refine (week_any _ _ hE).mono ?_
    rintro e w30 ⟨rfl, hx⟩
    replace hb := below_dr hb hx
    clear hx
    go_wp2_with fail
    refine (week_any _ _ hD).mono ?_
    rintro e w31 ⟨rfl, hx⟩
    replace hb := below_dr hb hx
    clear hx
    go_wp2_with fail
    refine (day_any _ _ hE).mono ?_
    rintro e w32 ⟨rfl, hx⟩
    replace hb := below_dr hb hx
    clear hx
    go_wp2_with fail
    refine (day_any _ _ hD).mono ?_
    rintro e w33 ⟨rfl, hx⟩
    replace hb := below_dr hb hx
    clear hx
    go_wp2_with fail
    refine (awake_any _).mono ?_
    rintro e w34 ⟨rfl, hx⟩
    replace hb := hb.trans (hx.mono hb.size)
    clear hx
    go_wp2_with fail
    go_ret
    exact ⟨rfl, hb⟩

set_option maxRecDepth 100000 in
theorem lifted (os : Os) (started : os.Started) (H : Type) (enc : TypeId × Value → H) :
    ReturnsInHanded {} Try.checked os 7 .any (Rows.dayWeeksSpec.pre6 enc Try.prog Try.f7 Rows.dayWeeksRow.domain false) (Rows.dayWeeksSpec.post enc Try.prog Try.f7 false true false false) := by
  refine returnsInHanded_of_change (C := Try.checked) own started (by kernel_rfl) Try.func7
    (ChangeSpec.witness6 (enc := enc) (C := Try.checked) false ⟨#[], #[.int .i64 0], []⟩ 8 (by kernel_rfl) (by kernel_rfl) (by kernel_rfl) (by kernel_rfl)) ?_
  intro W base args ds gs before hval0 hW hcnd _
  have hval : ∀ (j : Nat) t v, Try.f7.params[j]? = some t → args[j]? = some v → Value.okWide Try.prog W .any base t v := hval0
  have hW' := hW
  obtain ⟨p, q, hA0, hV, rfl, hfz, hnd⟩ := hW
  have hA : DataW.TrodAll enc Try.prog W 0 (fun _ => true) true Try.f7.params.toList args.toList ds p := hA0
  rw [Try.params7] at hA hval
  obtain ⟨v0, vs0, d0, ds0, p0, q0, hargs, rfl, rfl, h0, r0⟩ := trodAll_cons hA
  obtain ⟨rfl, rfl, rfl⟩ := trodAll_nil r0
  obtain rfl : args = #[v0] := by cases args; simp_all
  obtain ⟨rfl, rfl⟩ := trodVars_none hV
  obtain ⟨a0, rfl, rfl, rfl, w0⟩ := open_int Try.underlying2 (hval 0 2 v0 rfl rfl) h0
  clear hA0 hval0
  refine (walk a0 w0 W).mono fun e W' ⟨he, bel⟩ => ?_
  subst he
  exact ⟨_, rfl, _, _, _, [], _, [], hW', trodAll_mk1 (shut_bool Try.underlying4 _), (trodAll_cons_mk (shut_int Try.underlying2 w0) trodAll_mk0), rfl, bel.frame _, fun h => by cases h⟩

theorem over : Rows.dayWeeksRow.holds Try.pinned (OpenSpec.ofChange Rows.dayWeeksSpec) :=
  OpenClaim.holds_of_wide 7 Try.f7 rfl rfl rfl rfl rfl rfl rfl ⟨rfl, rfl, rfl, rfl, rfl⟩ rfl rfl rfl rfl rfl (by kernel_rfl) Try.func7 (by kernel_rfl)
    (of_decide_eq_true (by kernel_rfl)) (by unfold Func.isWrapper; first | (rw [if_pos (by decide +kernel)]; kernel_rfl) | (rw [if_neg (by decide +kernel)]; exact ⟨rfl, rfl⟩))
    (fun os started H enc _ => lifted os started H enc)

/-- the statement -/
theorem proved : Rows.DayWeeksSaid :=
  over
end Go.Proofs.Ytgjpopndjnbkaaa.dayWeeks
