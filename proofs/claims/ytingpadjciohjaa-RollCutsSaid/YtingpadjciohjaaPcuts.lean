/-
  For every data, window and cuts RollCuts answers true: the chunks, the reason why cuts may not be, and the sum are the document's; the arguments read as before.
-/
import Derived.Test.YtingpadjciohjaaRows
import Derived.Test.YtingpadjciohjaaOk
import Derived.WalkKit
import Derived.ProofKit
import Derived.OpenShut
import Derived.ShutString
import Derived.RegionTactic
import Derived.BigRegion
import Derived.BigQuiet
import Derived.Deep.RegionHeld3
namespace Go.Proofs.Ytingpadjciohjaa.rollCuts
open Go.ChangeShapes Go.WideShapes Go.ChangeAt Go.RowKit
open Go.ChangeMaps (open_string shut_string)
open Nm
set_option linter.unusedVariables false
set_option linter.unusedSimpArgs false

theorem own : ownKnob Try.prog.godebug = none := by kernel_rfl
set_option maxRecDepth 100000 in
set_option maxHeartbeats 4000000 in
theorem walk (D V : ByteArray) (w lo hi : Int) (m : Nat) (hD : D.size ≤ maxLen) (hV : V.size ≤ maxLen) (hm : m < 4294967296) (W : World) :
    Calls Try.prog 3 #[.string D, .string V, .agg (cc w lo hi m)] W fun e w' => e = .returned (.bool true) ∧ Below W.heap.size W w' := by
  unfold maxLen at hD hV
  have st := at_new W w lo hi m 24
  have bW := grow W (Obj.cells (cc w lo hi m) 24)
  by_cases hbig : 2500 < D.size ∨ 500 < V.size
  · have dd : 2500 < (D.size : Int) ∨ (decide (2500 < (D.size : Int)) = false ∧ 500 < (V.size : Int)) := by
      by_cases h1 : 2500 < D.size
      · exact .inl (by omega)
      · exact .inr ⟨by rw [decide_eq_false_iff_not]; omega, by omega⟩
    clear hbig
    rcases dd with d0 | ⟨d0, d1⟩ <;>
    · go_enter Try.func3, Try.ntmps3
      go_wp2_with fail
      refine (alive_any _).mono ?_
      rintro e w1 ⟨rfl, hb⟩
      replace st := st.below hb
      replace bW := bW.trans (hb.mono bW.size)
      clear hb
      obtain ⟨k0, k1, k2, k3⟩ := id st
      go_wp2_with fail
      go_ret
      exact ⟨rfl, bW⟩
  · have d0 : decide (2500 < (D.size : Int)) = false := by rw [decide_eq_false_iff_not]; omega
    have d1 : decide (500 < (V.size : Int)) = false := by rw [decide_eq_false_iff_not]; omega
    have h1 := fun wr => cutI_any D w lo hi m hm (by omega) wr
    have h2 := fun wr => rcutI_any D w lo hi m hm (by omega) wr
    have h3 := fun wr => check_any w lo hi m wr
    have h4 := fun wr => rcheck_any w lo hi m wr
    have h5 := fun wr => sum_any V wr (by omega)
    have h6 := fun wr => rsum_any V wr (by omega)
    have hLen := li_len D w lo hi m
    unfold CutP at h1 h2
    generalize LI D w lo hi m = L at *
    generalize chk w lo hi = q at *
    clear hbig
    go_enter Try.func3, Try.ntmps3
    go_wp2_with fail
    refine (alive_any _).mono ?_
    rintro e w1 ⟨rfl, hb⟩
    replace st := st.below hb
    replace bW := bW.trans (hb.mono bW.size)
    clear hb
    obtain ⟨k0, k1, k2, k3⟩ := id st
    go_wp2_with fail
    refine (h1 _).mono ?_
    rintro e w2 ⟨A, cap, l, rfl, hts, hl, hb⟩
    replace st := st.below hb
    replace bW := bW.trans (hb.mono bW.size)
    clear hb k0 k1 k2 k3 h1
    obtain ⟨k0, k1, k2, k3⟩ := id st
    go_wp2_with fail
    refine (h2 _).mono ?_
    rintro e w3 ⟨A', cap', l', rfl, hts', hl', hb⟩
    replace st := st.below hb
    replace hts := hts.below hb
    replace bW := bW.trans (hb.mono bW.size)
    clear hb k0 k1 k2 k3 h2
    obtain ⟨k0, k1, k2, k3⟩ := id st
    have ll : l.length ≤ D.size := by rw [← List.length_map (f := toL), hl]; exact hLen
    obtain rfl : l' = l := map_toL_inj (hl'.trans hl.symm)
    clear hl hl' hLen
    have hs := same_any A A' l'.length cap l'.length cap' l' l' w3.drew (Ts.drew hts) (Ts.drew hts') (by omega) (by omega)
    rw [decide_eq_true rfl] at hs
    clear hts hts'
    go_wp2_with fail
    go_region_held3 (fun u => u.cell? ⟨W.heap.size, 0, none⟩ = some (.int .i64 w) ∧ u.cell? ⟨W.heap.size, 1, none⟩ = some (.int .i64 lo) ∧ u.cell? ⟨W.heap.size, 2, none⟩ = some (.int .i64 hi) ∧ u.cell? ⟨W.heap.size, 3, none⟩ = some (.int .u32 (m : Nat))) (first | exact At.four (At.drew st) | exact At.four st1 | exact At.four st2 | exact At.four st3) (first | (go_at_call 12; refine hs.mono ?_; rintro e w4 ⟨rfl, hd⟩; have st1 := st.drew.dr hd; have b1 := below_dr bW.drew hd) | (go_at_call 13; refine (h3 _).mono ?_; rintro e w5 ⟨rfl, hx⟩; have st2 := st1.below hx; have b2 := b1.trans (hx.mono b1.size)) | (go_at_call 14; refine (h4 _).mono ?_; rintro e w6 ⟨rfl, hx2⟩; have st3 := st2.below hx2; have b3 := b2.trans (hx2.mono b2.size)) | (go_at_call 15; refine (h5 _).mono ?_; rintro e w7 ⟨rfl, rfl⟩) | (go_at_call 16; refine (h6 _).mono ?_; rintro e w8 ⟨rfl, rfl⟩))
    all_goals
      go_wp2_with fail
      go_ret
      exact ⟨rfl, b3⟩

set_option maxRecDepth 100000 in
theorem lifted (os : Os) (started : os.Started) (H : Type) (enc : TypeId × Value → H) :
    ReturnsInHanded {} Try.checked os 3 .any (Rows.rollCutsSpec.pre6 enc Try.prog Try.f3 Rows.rollCutsRow.domain false) (Rows.rollCutsSpec.post enc Try.prog Try.f3 false true false false) := by
  refine returnsInHanded_of_change (C := Try.checked) own started (by kernel_rfl) Try.func3
    (ChangeSpec.witness6 (enc := enc) (C := Try.checked) false ⟨#[], #[.string ByteArray.empty, .string ByteArray.empty, .agg #[.int .i64 0, .int .i64 0, .int .i64 0, .int .u32 0]], []⟩ 8 (by kernel_rfl) (by kernel_rfl) (by kernel_rfl) (by kernel_rfl)) ?_
  intro W base args ds gs before hval0 hW hcnd _
  have hval : ∀ (j : Nat) t v, Try.f3.params[j]? = some t → args[j]? = some v → Value.okWide Try.prog W .any base t v := hval0
  have hW' := hW
  obtain ⟨p, q, hA0, hV, rfl, hfz, hnd⟩ := hW
  have hA : DataW.TrodAll enc Try.prog W 0 (fun _ => true) true Try.f3.params.toList args.toList ds p := hA0
  rw [Try.params3] at hA hval
  obtain ⟨v0, vs0, d0, ds0, p0, q0, hargs, rfl, rfl, h0, r0⟩ := trodAll_cons hA
  obtain ⟨v1, vs1, d1, ds1, p1, q1, rfl, rfl, rfl, h1, r1⟩ := trodAll_cons r0
  obtain ⟨v2, vs2, d2, ds2, p2, q2, rfl, rfl, rfl, h2, r2⟩ := trodAll_cons r1
  obtain ⟨rfl, rfl, rfl⟩ := trodAll_nil r2
  obtain rfl : args = #[v0, v1, v2] := by cases args; simp_all
  obtain ⟨rfl, rfl⟩ := trodVars_none hV
  obtain ⟨a0, rfl, rfl, rfl, w0⟩ := open_string Try.underlying9 (hval 0 9 v0 rfl rfl) h0
  obtain ⟨a1, rfl, rfl, rfl, w1⟩ := open_string Try.underlying9 (hval 1 9 v1 rfl rfl) h1
  obtain ⟨w2, lo2, hi2, m2, rfl, a2, b2, c2, z2⟩ := okCuts (hval 2 24 v2 rfl rfl)
  have k2 := h2
  have lt2 : ∀ x ∈ p2, x.block < W.heap.size := by obtain ⟨m, hm⟩ := k2; exact DataW.trod_lt m _ _ _ hm
  clear hA0 hval0
  refine (walk a0 a1 w2 lo2 hi2 m2 w0 w1 z2 W).mono fun e W' ⟨he, bel⟩ => ?_
  subst he
  exact ⟨_, rfl, _, _, _, [], _, [], hW', trodAll_mk1 (shut_bool Try.underlying4 _), (trodAll_cons_mk (shut_string Try.underlying9 w0) (trodAll_cons_mk (shut_string Try.underlying9 w1) (trodAll_cons_mk (Below.trod laidOut (by kernel_rfl) (of_decide_eq_true (by kernel_rfl)) k2 bel lt2) trodAll_mk0))), rfl, bel.frame _, fun h => by cases h⟩

theorem over : Rows.rollCutsRow.holds Try.pinned (OpenSpec.ofChange Rows.rollCutsSpec) :=
  OpenClaim.holds_of_wide 3 Try.f3 rfl rfl rfl rfl rfl rfl rfl ⟨rfl, rfl, rfl, rfl, rfl⟩ rfl rfl rfl rfl rfl (by kernel_rfl) Try.func3 (by kernel_rfl)
    (of_decide_eq_true (by kernel_rfl)) (by unfold Func.isWrapper; first | (rw [if_pos (by decide +kernel)]; kernel_rfl) | (rw [if_neg (by decide +kernel)]; exact ⟨rfl, rfl⟩))
    (fun os started H enc _ => lifted os started H enc)

/-- the statement -/
theorem proved : Rows.RollCutsSaid := over
end Go.Proofs.Ytingpadjciohjaa.rollCuts
