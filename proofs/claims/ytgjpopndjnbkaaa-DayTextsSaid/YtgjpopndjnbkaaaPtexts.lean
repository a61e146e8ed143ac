/-
  For every minute the law DayTexts of package day returns true; there is no condition.
-/
import Derived.Test.YtgjpopndjnbkaaaRows
import Derived.WalkKit
import Derived.ProofKit
import Derived.OpenShut
import Derived.ShutString
import Derived.Below
import Derived.Test.YtgjpopndjnbkaaaTx
namespace Go.Proofs.Ytgjpopndjnbkaaa.dayTexts
open Go.ChangeShapes Go.WideShapes Go.ChangeAt Go.RowKit
open Go.ChangeMaps (open_string shut_string)
set_option linter.unusedVariables false

theorem own : ownKnob Try.prog.godebug = none := by kernel_rfl

open Go.Proofs.Ytgjpopndjnbkaaa in
set_option maxRecDepth 100000 in
set_option maxHeartbeats 1000000 in
theorem walk (a0 : Int) (w0 : (Lit.int .i64 a0).wf = true) (w : World) :
    Calls Try.prog 4 #[.int .i64 a0] w fun e w' => e = .returned (.bool true) ∧ Below w.heap.size w w' := by
  have h := bounds_i64 w0
  have hD : D0 a0 := by unfold D0; omega
  have hb := Below.refl w.heap.size w
  by_cases ho : out a0
  · have ht := text_out ho
    have c1 : ∀ w, Calls Try.prog 19 #[.int .i64 a0] w fun e w' => e = .returned (.string ⟨#[]⟩) ∧ Below w.heap.size w w' := fun w => by rw [← ht]; exact text_any a0 w hD
    have c2 : ∀ w, Calls Try.prog 20 #[.int .i64 a0] w fun e w' => e = .returned (.string ⟨#[]⟩) ∧ Below w.heap.size w w' := fun w => by rw [← ht]; exact rtext_any a0 w hD
    have c3 : ∀ w, Calls Try.prog 21 #[.string ⟨#[]⟩] w fun e w' => e = .returned (.tuple #[.int .i64 0, .bool false]) ∧ Below w.heap.size w w' := fun w => (of_any ⟨#[]⟩ w (by decide)).mono fun e w' ⟨h1, h2⟩ => ⟨OfIs.none (by decide) h1, h2⟩
    clear ht
    go_enter Try.func4, Try.ntmps4
    go_wp2_with fail
    refine (c1 _).mono ?_
    rintro e w35 ⟨rfl, hx⟩
    replace hb := hb.trans (hx.mono hb.size)
    clear hx
    go_wp2_with fail
    refine (c2 _).mono ?_
    rintro e w36 ⟨rfl, hx⟩
    replace hb := hb.trans (hx.mono hb.size)
    clear hx
    go_wp2_with fail
    refine (c3 _).mono ?_
    rintro e w37 ⟨rfl, hx⟩
    replace hb := hb.trans (hx.mono hb.size)
    clear hx
    go_wp2_with fail
    refine (awake_any _).mono ?_
    rintro e w38 ⟨rfl, hx⟩
    replace hb := hb.trans (hx.mono hb.size)
    clear hx
    go_wp2_with fail
    go_ret
    exact ⟨rfl, hb⟩
  · have hs := text_size ho
    have c1 : ∀ w, Calls Try.prog 19 #[.int .i64 a0] w fun e w' => e = .returned (.string (text a0)) ∧ Below w.heap.size w w' := fun w => text_any a0 w hD
    have c2 : ∀ w, Calls Try.prog 20 #[.int .i64 a0] w fun e w' => e = .returned (.string (text a0)) ∧ Below w.heap.size w w' := fun w => rtext_any a0 w hD
    have c3 : ∀ w, Calls Try.prog 21 #[.string (text a0)] w fun e w' => e = .returned (.tuple #[.int .i64 a0, .bool true]) ∧ Below w.heap.size w w' := fun w => of_at a0 _ w hD ho rfl
    generalize text a0 = T at *
    have hT := not_empty hs
    go_enter Try.func4, Try.ntmps4
    go_wp2_with fail
    refine (c1 _).mono ?_
    rintro e w39 ⟨rfl, hx⟩
    replace hb := hb.trans (hx.mono hb.size)
    clear hx
    go_wp2_with fail
    refine (c2 _).mono ?_
    rintro e w40 ⟨rfl, hx⟩
    replace hb := hb.trans (hx.mono hb.size)
    clear hx
    go_wp2_with fail
    refine (c3 _).mono ?_
    rintro e w41 ⟨rfl, hx⟩
    replace hb := hb.trans (hx.mono hb.size)
    clear hx
    go_wp2_with fail
    refine (awake_any _).mono ?_
    rintro e w42 ⟨rfl, hx⟩
    replace hb := hb.trans (hx.mono hb.size)
    clear hx
    go_wp2_with fail
    go_ret
    exact ⟨rfl, hb⟩

set_option maxRecDepth 100000 in
theorem lifted (os : Os) (started : os.Started) (H : Type) (enc : TypeId × Value → H) :
    ReturnsInHanded {} Try.checked os 4 .any (Rows.dayTextsSpec.pre6 enc Try.prog Try.f4 Rows.dayTextsRow.domain false) (Rows.dayTextsSpec.post enc Try.prog Try.f4 false true false false) := by
  refine returnsInHanded_of_change (C := Try.checked) own started (by kernel_rfl) Try.func4
    (ChangeSpec.witness6 (enc := enc) (C := Try.checked) false ⟨#[], #[.int .i64 0], []⟩ 8 (by kernel_rfl) (by kernel_rfl) (by kernel_rfl) (by kernel_rfl)) ?_
  intro W base args ds gs before hval0 hW hcnd _
  have hval : ∀ (j : Nat) t v, Try.f4.params[j]? = some t → args[j]? = some v → Value.okWide Try.prog W .any base t v := hval0
  have hW' := hW
  obtain ⟨p, q, hA0, hV, rfl, hfz, hnd⟩ := hW
  have hA : DataW.TrodAll enc Try.prog W 0 (fun _ => true) true Try.f4.params.toList args.toList ds p := hA0
  rw [Try.params4] at hA hval
  obtain ⟨v0, vs0, d0, ds0, p0, q0, hargs, rfl, rfl, h0, r0⟩ := trodAll_cons hA
  obtain ⟨rfl, rfl, rfl⟩ := trodAll_nil r0
  obtain rfl : args = #[v0] := by cases args; simp_all
  obtain ⟨rfl, rfl⟩ := trodVars_none hV
  obtain ⟨a0, rfl, rfl, rfl, w0⟩ := open_int Try.underlying2 (hval 0 2 v0 rfl rfl) h0
  clear hA0 hval0
  refine (walk a0 w0 W).mono fun e W' ⟨he, bel⟩ => ?_
  subst he
  exact ⟨_, rfl, _, _, _, [], _, [], hW', trodAll_mk1 (shut_bool Try.underlying4 _), (trodAll_cons_mk (shut_int Try.underlying2 w0) trodAll_mk0), rfl, bel.frame _, fun h => by cases h⟩

theorem over : Rows.dayTextsRow.holds Try.pinned (OpenSpec.ofChange Rows.dayTextsSpec) :=
  OpenClaim.holds_of_wide 4 Try.f4 rfl rfl rfl rfl rfl rfl rfl ⟨rfl, rfl, rfl, rfl, rfl⟩ rfl rfl rfl rfl rfl (by kernel_rfl) Try.func4 (by kernel_rfl)
    (of_decide_eq_true (by kernel_rfl)) (by unfold Func.isWrapper; first | (rw [if_pos (by decide +kernel)]; kernel_rfl) | (rw [if_neg (by decide +kernel)]; exact ⟨rfl, rfl⟩))
    (fun os started H enc _ => lifted os started H enc)

/-- the statement -/
theorem proved : Rows.DayTextsSaid :=
  over
end Go.Proofs.Ytgjpopndjnbkaaa.dayTexts
