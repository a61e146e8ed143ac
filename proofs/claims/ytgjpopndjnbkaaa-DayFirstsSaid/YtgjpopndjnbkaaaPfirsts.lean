/-
  For every minute the law DayFirsts of package day returns true; there is no condition.
-/
import Derived.Test.YtgjpopndjnbkaaaRows
import Derived.WalkKit
import Derived.ProofKit
import Derived.OpenShut
import Derived.ShutString
import Derived.Below
import Derived.Test.YtgjpopndjnbkaaaTg
import Derived.Deep.RegionHeld3
namespace Go.Proofs.Ytgjpopndjnbkaaa.dayFirsts
open Go.ChangeShapes Go.WideShapes Go.ChangeAt Go.RowKit
open Go.ChangeMaps (open_string shut_string)
set_option linter.unusedVariables false

theorem own : ownKnob Try.prog.godebug = none := by kernel_rfl

open Go.Proofs.Ytgjpopndjnbkaaa in
set_option maxRecDepth 100000 in
set_option maxHeartbeats 4000000 in
theorem walk (a0 : Int) (w0 : (Lit.int .i64 a0).wf = true) (w : World) :
    Calls Try.prog 9 #[.int .i64 a0] w fun e w' => e = .returned (.bool true) ∧ Below w.heap.size w w' := by
  have h := bounds_i64 w0
  have hD : D0 a0 := by unfold D0; omega
  have hb := Below.refl w.heap.size w
  by_cases g0 : 1125899906842624 < a0
  · go_enter Try.func9, Try.ntmps9
    go_wp2_with fail
    refine (awake_any _).mono ?_
    rintro e w1 ⟨rfl, hx⟩
    replace hb := hb.trans (hx.mono hb.size)
    clear hx
    go_wp2_with fail
    go_ret
    exact ⟨rfl, hb⟩
  by_cases g1 : a0 < -1125899906842624
  · go_enter Try.func9, Try.ntmps9
    go_wp2_with fail
    refine (awake_any _).mono ?_
    rintro e w2 ⟨rfl, hx⟩
    replace hb := hb.trans (hx.mono hb.size)
    clear hx
    go_wp2_with fail
    go_ret
    exact ⟨rfl, hb⟩
  have hE : D0 (a0 + 1440) := by unfold D0; omega
  by_cases o1 : out (a0 + 1440)
  · have c2 : ∀ w, Calls Try.prog 19 #[.int .i64 (a0 + 1440)] w fun e w' => e = .returned (.string ⟨#[]⟩) ∧ Below w.heap.size w w' := fun w => by rw [← text_out o1]; exact text_any _ w hE
    go_enter Try.func9, Try.ntmps9
    go_wp2_with fail
    refine (c2 _).mono ?_
    rintro e w3 ⟨rfl, hx⟩
    replace hb := hb.trans (hx.mono hb.size)
    clear hx
    go_wp2_with fail
    refine (awake_any _).mono ?_
    rintro e w4 ⟨rfl, hx⟩
    replace hb := hb.trans (hx.mono hb.size)
    clear hx
    go_wp2_with fail
    go_ret
    exact ⟨rfl, hb⟩
  have hs := text_size o1
  have c2 : ∀ w, Calls Try.prog 19 #[.int .i64 (a0 + 1440)] w fun e w' => e = .returned (.string (text (a0 + 1440))) ∧ Below w.heap.size w w' := fun w => text_any _ w hE
  by_cases o0 : out a0
  · have c1 : ∀ w, Calls Try.prog 19 #[.int .i64 a0] w fun e w' => e = .returned (.string ⟨#[]⟩) ∧ Below w.heap.size w w' := fun w => by rw [← text_out o0]; exact text_any _ w hD
    generalize text (a0 + 1440) = T at *
    go_enter Try.func9, Try.ntmps9
    go_wp2_with fail
    refine (c2 _).mono ?_
    rintro e w5 ⟨rfl, hx⟩
    replace hb := hb.trans (hx.mono hb.size)
    clear hx
    go_wp2_with fail
    refine (c1 _).mono ?_
    rintro e w6 ⟨rfl, hx⟩
    replace hb := hb.trans (hx.mono hb.size)
    clear hx
    go_wp2_with fail
    refine (awake_any _).mono ?_
    rintro e w7 ⟨rfl, hx⟩
    replace hb := hb.trans (hx.mono hb.size)
    clear hx
    go_wp2_with fail
    go_ret
    exact ⟨rfl, hb⟩
  have c1 : ∀ w, Calls Try.prog 19 #[.int .i64 a0] w fun e w' => e = .returned (.string (text a0)) ∧ Below w.heap.size w w' := fun w => text_any _ w hD
  have hT := not_empty (text_size o0)
  generalize text a0 = U at *
  have hF := firsts hD hE o1
  generalize text (a0 + 1440) = T at *
  rcases hF with ⟨em, ey, k1, k2⟩ | ⟨em, ey, k1, k2⟩ | ⟨em, ey, k1, k2⟩
  · have B3 : ((T.extract 8 10).toList == [48, 49]) = false := by rw [beq_eq_false_iff_ne, ByteArray.toList_eq]; exact k1
    have B4 : ((T.extract 5 10).toList == [48, 49, 45, 48, 49]) = false := by rw [beq_eq_false_iff_ne, ByteArray.toList_eq]; exact k2
    have V1 : (⟨#[48, 49]⟩ : ByteArray).toList = [48, 49] := by rw [ByteArray.toList_eq]
    have V2 : (⟨#[48, 49, 45, 48, 49]⟩ : ByteArray).toList = [48, 49, 45, 48, 49] := by rw [ByteArray.toList_eq]
    clear k1 k2
    go_enter Try.func9, Try.ntmps9
    go_wp2_with fail
    refine (c2 _).mono ?_
    rintro e w8 ⟨rfl, hx⟩
    replace hb := hb.trans (hx.mono hb.size)
    clear hx
    go_wp2_with fail
    refine (c1 _).mono ?_
    rintro e w9 ⟨rfl, hx⟩
    replace hb := hb.trans (hx.mono hb.size)
    clear hx
    go_wp2_with fail
    go_region_held3 (fun w' => Below w.heap.size w w') (first | assumption | exact Below.drew (by assumption) | exact below_step (by assumption) (by assumption)) (first | (go_at_call 14; refine (month_any _ _ (by first | exact hD | exact hE)).mono ?_; rintro e w3 ⟨rfl, hx⟩) | (go_at_call 16; refine (year_any _ _ (by first | exact hD | exact hE)).mono ?_; rintro e w3 ⟨rfl, hx⟩) | (go_at_call 18; refine (awake_any _).mono ?_; rintro e w3 ⟨rfl, hx⟩))
    go_wp2_with fail
    go_ret
    exact ⟨rfl, by assumption⟩
  · have B3 : (T.extract 8 10).toList = [48, 49] := by rw [ByteArray.toList_eq]; exact k1
    have B4 : ((T.extract 5 10).toList == [48, 49, 45, 48, 49]) = false := by rw [beq_eq_false_iff_ne, ByteArray.toList_eq]; exact k2
    have B1 : (Cal.month a0 + 1 != Cal.month a0) = true := by rw [bne_iff_ne]; omega
    have V1 : (⟨#[48, 49]⟩ : ByteArray).toList = [48, 49] := by rw [ByteArray.toList_eq]
    have V2 : (⟨#[48, 49, 45, 48, 49]⟩ : ByteArray).toList = [48, 49, 45, 48, 49] := by rw [ByteArray.toList_eq]
    clear k1 k2
    go_enter Try.func9, Try.ntmps9
    go_wp2_with fail
    refine (c2 _).mono ?_
    rintro e w10 ⟨rfl, hx⟩
    replace hb := hb.trans (hx.mono hb.size)
    clear hx
    go_wp2_with fail
    refine (c1 _).mono ?_
    rintro e w11 ⟨rfl, hx⟩
    replace hb := hb.trans (hx.mono hb.size)
    clear hx
    go_wp2_with fail
    go_region_held3 (fun w' => Below w.heap.size w w') (first | assumption | exact Below.drew (by assumption) | exact below_step (by assumption) (by assumption)) (first | (go_at_call 14; refine (month_any _ _ (by first | exact hD | exact hE)).mono ?_; rintro e w3 ⟨rfl, hx⟩) | (go_at_call 16; refine (year_any _ _ (by first | exact hD | exact hE)).mono ?_; rintro e w3 ⟨rfl, hx⟩) | (go_at_call 18; refine (awake_any _).mono ?_; rintro e w3 ⟨rfl, hx⟩))
    go_wp2_with fail
    go_ret
    exact ⟨rfl, by assumption⟩
  · have B3 : (T.extract 8 10).toList = [48, 49] := by rw [ByteArray.toList_eq]; exact k1
    have B4 : (T.extract 5 10).toList = [48, 49, 45, 48, 49] := by rw [ByteArray.toList_eq]; exact k2
    have B1 : (Cal.month a0 + 1 != Cal.month a0) = true := by rw [bne_iff_ne]; omega
    have B2 : (Cal.year a0 + 1 != Cal.year a0) = true := by rw [bne_iff_ne]; omega
    have V1 : (⟨#[48, 49]⟩ : ByteArray).toList = [48, 49] := by rw [ByteArray.toList_eq]
    have V2 : (⟨#[48, 49, 45, 48, 49]⟩ : ByteArray).toList = [48, 49, 45, 48, 49] := by rw [ByteArray.toList_eq]
    clear k1 k2
    go_enter Try.func9, Try.ntmps9
    go_wp2_with fail
    refine (c2 _).mono ?_
    rintro e w12 ⟨rfl, hx⟩
    replace hb := hb.trans (hx.mono hb.size)
    clear hx
    go_wp2_with fail
    refine (c1 _).mono ?_
    rintro e w13 ⟨rfl, hx⟩
    replace hb := hb.trans (hx.mono hb.size)
    clear hx
    go_wp2_with fail
    go_region_held3 (fun w' => Below w.heap.size w w') (first | assumption | exact Below.drew (by assumption) | exact below_step (by assumption) (by assumption)) (first | (go_at_call 14; refine (month_any _ _ (by first | exact hD | exact hE)).mono ?_; rintro e w3 ⟨rfl, hx⟩) | (go_at_call 16; refine (year_any _ _ (by first | exact hD | exact hE)).mono ?_; rintro e w3 ⟨rfl, hx⟩) | (go_at_call 18; refine (awake_any _).mono ?_; rintro e w3 ⟨rfl, hx⟩))
    go_wp2_with fail
    go_ret
    exact ⟨rfl, by assumption⟩

set_option maxRecDepth 100000 in
theorem lifted (os : Os) (started : os.Started) (H : Type) (enc : TypeId × Value → H) :
    ReturnsInHanded {} Try.checked os 9 .any (Rows.dayFirstsSpec.pre6 enc Try.prog Try.f9 Rows.dayFirstsRow.domain false) (Rows.dayFirstsSpec.post enc Try.prog Try.f9 false true false false) := by
  refine returnsInHanded_of_change (C := Try.checked) own started (by kernel_rfl) Try.func9
    (ChangeSpec.witness6 (enc := enc) (C := Try.checked) false ⟨#[], #[.int .i64 0], []⟩ 8 (by kernel_rfl) (by kernel_rfl) (by kernel_rfl) (by kernel_rfl)) ?_
  intro W base args ds gs before hval0 hW hcnd _
  have hval : ∀ (j : Nat) t v, Try.f9.params[j]? = some t → args[j]? = some v → Value.okWide Try.prog W .any base t v := hval0
  have hW' := hW
  obtain ⟨p, q, hA0, hV, rfl, hfz, hnd⟩ := hW
  have hA : DataW.TrodAll enc Try.prog W 0 (fun _ => true) true Try.f9.params.toList args.toList ds p := hA0
  rw [Try.params9] at hA hval
  obtain ⟨v0, vs0, d0, ds0, p0, q0, hargs, rfl, rfl, h0, r0⟩ := trodAll_cons hA
  obtain ⟨rfl, rfl, rfl⟩ := trodAll_nil r0
  obtain rfl : args = #[v0] := by cases args; simp_all
  obtain ⟨rfl, rfl⟩ := trodVars_none hV
  obtain ⟨a0, rfl, rfl, rfl, w0⟩ := open_int Try.underlying2 (hval 0 2 v0 rfl rfl) h0
  clear hA0 hval0
  refine (walk a0 w0 W).mono fun e W' ⟨he, bel⟩ => ?_
  subst he
  exact ⟨_, rfl, _, _, _, [], _, [], hW', trodAll_mk1 (shut_bool Try.underlying4 _), (trodAll_cons_mk (shut_int Try.underlying2 w0) trodAll_mk0), rfl, bel.frame _, fun h => by cases h⟩

theorem over : Rows.dayFirstsRow.holds Try.pinned (OpenSpec.ofChange Rows.dayFirstsSpec) :=
  OpenClaim.holds_of_wide 9 Try.f9 rfl rfl rfl rfl rfl rfl rfl ⟨rfl, rfl, rfl, rfl, rfl⟩ rfl rfl rfl rfl rfl (by kernel_rfl) Try.func9 (by kernel_rfl)
    (of_decide_eq_true (by kernel_rfl)) (by unfold Func.isWrapper; first | (rw [if_pos (by decide +kernel)]; kernel_rfl) | (rw [if_neg (by decide +kernel)]; exact ⟨rfl, rfl⟩))
    (fun os started H enc _ => lifted os started H enc)

/-- the statement -/
theorem proved : Rows.DayFirstsSaid :=
  over
end Go.Proofs.Ytgjpopndjnbkaaa.dayFirsts
