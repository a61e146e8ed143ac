/-
  For every two minutes the law DayRises of package day returns true; there is no condition.
-/
import Derived.Test.YtgjpopndjnbkaaaRows
import Derived.WalkKit
import Derived.ProofKit
import Derived.OpenShut
import Derived.ShutString
import Derived.Below
import Derived.Test.YtgjpopndjnbkaaaTm
namespace Go.Proofs.Ytgjpopndjnbkaaa.dayRises
open Go.ChangeShapes Go.WideShapes Go.ChangeAt Go.RowKit
open Go.ChangeMaps (open_string shut_string)
set_option linter.unusedVariables false

theorem own : ownKnob Try.prog.godebug = none := by kernel_rfl

open Go.Proofs.Ytgjpopndjnbkaaa in
set_option maxRecDepth 100000 in
set_option maxHeartbeats 2000000 in
theorem walk (a0 a1 : Int) (w0 : (Lit.int .i64 a0).wf = true) (w1 : (Lit.int .i64 a1).wf = true) (w : World) :
    Calls Try.prog 6 #[.int .i64 a0, .int .i64 a1] w fun e w' => e = .returned (.bool true) ∧ Below w.heap.size w w' := by
  have h := bounds_i64 w0
  have h' := bounds_i64 w1
  have hD : D0 a0 := by unfold D0; omega
  have hE : D0 a1 := by unfold D0; omega
  clear w0 w1
  have hb := Below.refl w.heap.size w
  by_cases g0 : a1 < a0
  · go_enter Try.func6, Try.ntmps6
    go_wp2_with fail
    refine (awake_any _).mono ?_
    rintro e w1 ⟨rfl, hx⟩
    replace hb := hb.trans (hx.mono hb.size)
    clear hx
    go_wp2_with fail
    go_ret
    exact ⟨rfl, hb⟩
  have g1 : a0 ≤ a1 := by omega
  have m1 : Cal.day a0 ≤ Cal.day a1 := by unfold Cal.day; omega
  have m2 : Cal.week a0 ≤ Cal.week a1 := by unfold Cal.week Cal.day; omega
  have m3 := Cal.month_mono g1
  have m4 := Cal.year_mono g1
  have c1 : ∀ w, Calls Try.prog 19 #[.int .i64 a0] w fun e w' => e = .returned (.string (text a0)) ∧ Below w.heap.size w w' := fun w => text_any a0 w hD
  have c2 : ∀ w, Calls Try.prog 19 #[.int .i64 a1] w fun e w' => e = .returned (.string (text a1)) ∧ Below w.heap.size w w' := fun w => text_any a1 w hE
  by_cases o0 : out a0
  · rw [text_out o0] at c1
    go_enter Try.func6, Try.ntmps6
    go_wp2_with fail
    refine (c1 _).mono ?_
    rintro e w2 ⟨rfl, hx⟩
    replace hb := hb.trans (hx.mono hb.size)
    clear hx
    go_wp2_with fail
    refine (c2 _).mono ?_
    rintro e w3 ⟨rfl, hx⟩
    replace hb := hb.trans (hx.mono hb.size)
    clear hx
    go_wp2_with fail
    refine (day_any _ _ hD).mono ?_
    rintro e w4 ⟨rfl, hx⟩
    replace hb := below_dr hb hx
    clear hx
    go_wp2_with fail
    refine (day_any _ _ hE).mono ?_
    rintro e w5 ⟨rfl, hx⟩
    replace hb := below_dr hb hx
    clear hx
    go_wp2_with fail
    refine (week_any _ _ hD).mono ?_
    rintro e w6 ⟨rfl, hx⟩
    replace hb := below_dr hb hx
    clear hx
    go_wp2_with fail
    refine (week_any _ _ hE).mono ?_
    rintro e w7 ⟨rfl, hx⟩
    replace hb := below_dr hb hx
    clear hx
    go_wp2_with fail
    refine (month_any _ _ hD).mono ?_
    rintro e w8 ⟨rfl, hx⟩
    replace hb := hb.trans (hx.mono hb.size)
    clear hx
    go_wp2_with fail
    refine (month_any _ _ hE).mono ?_
    rintro e w9 ⟨rfl, hx⟩
    replace hb := hb.trans (hx.mono hb.size)
    clear hx
    go_wp2_with fail
    refine (year_any _ _ hD).mono ?_
    rintro e w10 ⟨rfl, hx⟩
    replace hb := hb.trans (hx.mono hb.size)
    clear hx
    go_wp2_with fail
    refine (year_any _ _ hE).mono ?_
    rintro e w11 ⟨rfl, hx⟩
    replace hb := hb.trans (hx.mono hb.size)
    clear hx
    go_wp2_with fail
    refine (awake_any _).mono ?_
    rintro e w12 ⟨rfl, hx⟩
    replace hb := hb.trans (hx.mono hb.size)
    clear hx
    go_wp2_with fail
    go_ret
    exact ⟨rfl, hb⟩
  by_cases o1 : out a1
  · rw [text_out o1] at c2
    have hT := not_empty (text_size o0)
    generalize text a0 = T at *
    go_enter Try.func6, Try.ntmps6
    go_wp2_with fail
    refine (c1 _).mono ?_
    rintro e w13 ⟨rfl, hx⟩
    replace hb := hb.trans (hx.mono hb.size)
    clear hx
    go_wp2_with fail
    refine (c2 _).mono ?_
    rintro e w14 ⟨rfl, hx⟩
    replace hb := hb.trans (hx.mono hb.size)
    clear hx
    go_wp2_with fail
    refine (day_any _ _ hD).mono ?_
    rintro e w15 ⟨rfl, hx⟩
    replace hb := below_dr hb hx
    clear hx
    go_wp2_with fail
    refine (day_any _ _ hE).mono ?_
    rintro e w16 ⟨rfl, hx⟩
    replace hb := below_dr hb hx
    clear hx
    go_wp2_with fail
    refine (week_any _ _ hD).mono ?_
    rintro e w17 ⟨rfl, hx⟩
    replace hb := below_dr hb hx
    clear hx
    go_wp2_with fail
    refine (week_any _ _ hE).mono ?_
    rintro e w18 ⟨rfl, hx⟩
    replace hb := below_dr hb hx
    clear hx
    go_wp2_with fail
    refine (month_any _ _ hD).mono ?_
    rintro e w19 ⟨rfl, hx⟩
    replace hb := hb.trans (hx.mono hb.size)
    clear hx
    go_wp2_with fail
    refine (month_any _ _ hE).mono ?_
    rintro e w20 ⟨rfl, hx⟩
    replace hb := hb.trans (hx.mono hb.size)
    clear hx
    go_wp2_with fail
    refine (year_any _ _ hD).mono ?_
    rintro e w21 ⟨rfl, hx⟩
    replace hb := hb.trans (hx.mono hb.size)
    clear hx
    go_wp2_with fail
    refine (year_any _ _ hE).mono ?_
    rintro e w22 ⟨rfl, hx⟩
    replace hb := hb.trans (hx.mono hb.size)
    clear hx
    go_wp2_with fail
    refine (awake_any _).mono ?_
    rintro e w23 ⟨rfl, hx⟩
    replace hb := hb.trans (hx.mono hb.size)
    clear hx
    go_wp2_with fail
    go_ret
    exact ⟨rfl, hb⟩
  have hT := not_empty (text_size o0)
  have hU := not_empty (text_size o1)
  have hle := text_mono hD hE o0 o1 g1
  generalize text a0 = T at *
  generalize text a1 = U at *
  rcases hle with hle | hle
  · go_enter Try.func6, Try.ntmps6
    go_wp2_with fail
    refine (c1 _).mono ?_
    rintro e w24 ⟨rfl, hx⟩
    replace hb := hb.trans (hx.mono hb.size)
    clear hx
    go_wp2_with fail
    refine (c2 _).mono ?_
    rintro e w25 ⟨rfl, hx⟩
    replace hb := hb.trans (hx.mono hb.size)
    clear hx
    go_wp2_with fail
    refine (day_any _ _ hD).mono ?_
    rintro e w26 ⟨rfl, hx⟩
    replace hb := below_dr hb hx
    clear hx
    go_wp2_with fail
    refine (day_any _ _ hE).mono ?_
    rintro e w27 ⟨rfl, hx⟩
    replace hb := below_dr hb hx
    clear hx
    go_wp2_with fail
    refine (week_any _ _ hD).mono ?_
    rintro e w28 ⟨rfl, hx⟩
    replace hb := below_dr hb hx
    clear hx
    go_wp2_with fail
    refine (week_any _ _ hE).mono ?_
    rintro e w29 ⟨rfl, hx⟩
    replace hb := below_dr hb hx
    clear hx
    go_wp2_with fail
    refine (month_any _ _ hD).mono ?_
    rintro e w30 ⟨rfl, hx⟩
    replace hb := hb.trans (hx.mono hb.size)
    clear hx
    go_wp2_with fail
    refine (month_any _ _ hE).mono ?_
    rintro e w31 ⟨rfl, hx⟩
    replace hb := hb.trans (hx.mono hb.size)
    clear hx
    go_wp2_with fail
    refine (year_any _ _ hD).mono ?_
    rintro e w32 ⟨rfl, hx⟩
    replace hb := hb.trans (hx.mono hb.size)
    clear hx
    go_wp2_with fail
    refine (year_any _ _ hE).mono ?_
    rintro e w33 ⟨rfl, hx⟩
    replace hb := hb.trans (hx.mono hb.size)
    clear hx
    go_wp2_with fail
    refine (awake_any _).mono ?_
    rintro e w34 ⟨rfl, hx⟩
    replace hb := hb.trans (hx.mono hb.size)
    clear hx
    go_wp2_with fail
    go_ret
    exact ⟨rfl, hb⟩
  · subst hle
    go_enter Try.func6, Try.ntmps6
    go_wp2_with fail
    refine (c1 _).mono ?_
    rintro e w35 ⟨rfl, hx⟩
    replace hb := hb.trans (hx.mono hb.size)
    clear hx
    go_wp2_with fail
    refine (c2 _).mono ?_
    rintro e w36 ⟨rfl, hx⟩
    replace hb := hb.trans (hx.mono hb.size)
    clear hx
    go_wp2_with fail
    refine (day_any _ _ hD).mono ?_
    rintro e w37 ⟨rfl, hx⟩
    replace hb := below_dr hb hx
    clear hx
    go_wp2_with fail
    refine (day_any _ _ hE).mono ?_
    rintro e w38 ⟨rfl, hx⟩
    replace hb := below_dr hb hx
    clear hx
    go_wp2_with fail
    refine (week_any _ _ hD).mono ?_
    rintro e w39 ⟨rfl, hx⟩
    replace hb := below_dr hb hx
    clear hx
    go_wp2_with fail
    refine (week_any _ _ hE).mono ?_
    rintro e w40 ⟨rfl, hx⟩
    replace hb := below_dr hb hx
    clear hx
    go_wp2_with fail
    refine (month_any _ _ hD).mono ?_
    rintro e w41 ⟨rfl, hx⟩
    replace hb := hb.trans (hx.mono hb.size)
    clear hx
    go_wp2_with fail
    refine (month_any _ _ hE).mono ?_
    rintro e w42 ⟨rfl, hx⟩
    replace hb := hb.trans (hx.mono hb.size)
    clear hx
    go_wp2_with fail
    refine (year_any _ _ hD).mono ?_
    rintro e w43 ⟨rfl, hx⟩
    replace hb := hb.trans (hx.mono hb.size)
    clear hx
    go_wp2_with fail
    refine (year_any _ _ hE).mono ?_
    rintro e w44 ⟨rfl, hx⟩
    replace hb := hb.trans (hx.mono hb.size)
    clear hx
    go_wp2_with fail
    refine (awake_any _).mono ?_
    rintro e w45 ⟨rfl, hx⟩
    replace hb := hb.trans (hx.mono hb.size)
    clear hx
    go_wp2_with fail
    go_ret
    exact ⟨rfl, hb⟩

set_option maxRecDepth 100000 in
theorem lifted (os : Os) (started : os.Started) (H : Type) (enc : TypeId × Value → H) :
    ReturnsInHanded {} Try.checked os 6 .any (Rows.dayRisesSpec.pre6 enc Try.prog Try.f6 Rows.dayRisesRow.domain false) (Rows.dayRisesSpec.post enc Try.prog Try.f6 false true false false) := by
  refine returnsInHanded_of_change (C := Try.checked) own started (by kernel_rfl) Try.func6
    (ChangeSpec.witness6 (enc := enc) (C := Try.checked) false ⟨#[], #[.int .i64 0, .int .i64 0], []⟩ 8 (by kernel_rfl) (by kernel_rfl) (by kernel_rfl) (by kernel_rfl)) ?_
  intro W base args ds gs before hval0 hW hcnd _
  have hval : ∀ (j : Nat) t v, Try.f6.params[j]? = some t → args[j]? = some v → Value.okWide Try.prog W .any base t v := hval0
  have hW' := hW
  obtain ⟨p, q, hA0, hV, rfl, hfz, hnd⟩ := hW
  have hA : DataW.TrodAll enc Try.prog W 0 (fun _ => true) true Try.f6.params.toList args.toList ds p := hA0
  rw [Try.params6] at hA hval
  obtain ⟨v0, vs0, d0, ds0, p0, q0, hargs, rfl, rfl, h0, r0⟩ := trodAll_cons hA
  obtain ⟨v1, vs1, d1, ds1, p1, q1, rfl, rfl, rfl, h1, r1⟩ := trodAll_cons r0
  obtain ⟨rfl, rfl, rfl⟩ := trodAll_nil r1
  obtain rfl : args = #[v0, v1] := by cases args; simp_all
  obtain ⟨rfl, rfl⟩ := trodVars_none hV
  obtain ⟨a0, rfl, rfl, rfl, w0⟩ := open_int Try.underlying2 (hval 0 2 v0 rfl rfl) h0
  obtain ⟨a1, rfl, rfl, rfl, w1⟩ := open_int Try.underlying2 (hval 1 2 v1 rfl rfl) h1
  clear hA0 hval0
  refine (walk a0 a1 w0 w1 W).mono fun e W' ⟨he, bel⟩ => ?_
  subst he
  exact ⟨_, rfl, _, _, _, [], _, [], hW', trodAll_mk1 (shut_bool Try.underlying4 _), (trodAll_cons_mk (shut_int Try.underlying2 w0) (trodAll_cons_mk (shut_int Try.underlying2 w1) trodAll_mk0)), rfl, bel.frame _, fun h => by cases h⟩

theorem over : Rows.dayRisesRow.holds Try.pinned (OpenSpec.ofChange Rows.dayRisesSpec) :=
  OpenClaim.holds_of_wide 6 Try.f6 rfl rfl rfl rfl rfl rfl rfl ⟨rfl, rfl, rfl, rfl, rfl⟩ rfl rfl rfl rfl rfl (by kernel_rfl) Try.func6 (by kernel_rfl)
    (of_decide_eq_true (by kernel_rfl)) (by unfold Func.isWrapper; first | (rw [if_pos (by decide +kernel)]; kernel_rfl) | (rw [if_neg (by decide +kernel)]; exact ⟨rfl, rfl⟩))
    (fun os started H enc _ => lifted os started H enc)

/-- the statement -/
theorem proved : Rows.DayRisesSaid :=
  over
end Go.Proofs.Ytgjpopndjnbkaaa.dayRises
