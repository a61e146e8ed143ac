/-
  For every text the law DayReads of package day returns true; there is no condition.
-/
import Derived.Test.YtgjpopndjnbkaaaRows
import Derived.WalkKit
import Derived.ProofKit
import Derived.OpenShut
import Derived.ShutString
import Derived.Below
import Derived.Test.YtgjpopndjnbkaaaAw
import Derived.Test.YtgjpopndjnbkaaaRg
namespace Go.Proofs.Ytgjpopndjnbkaaa.dayReads
open Go.ChangeShapes Go.WideShapes Go.ChangeAt Go.RowKit
open Go.ChangeMaps (open_string shut_string)
set_option linter.unusedVariables false

theorem own : ownKnob Try.prog.godebug = none := by kernel_rfl

theorem of_both {s : ByteArray} {e e0 : Ending} (h : OfIs s e) (h' : ROf s e0) : e = e0 := by
  rcases both h h' with ⟨n, rfl, rfl, _⟩ | ⟨rfl, rfl⟩ <;> rfl

set_option maxHeartbeats 1000000 in
theorem walk (a0 : ByteArray) (w0 : a0.size ≤ maxLen) (w : World) :
    Calls Try.prog 5 #[.string a0] w fun e w' => e = .returned (.bool true) ∧ Below w.heap.size w w' := by
  have hs : a0.size ≤ 9223372036854775807 := by
    have : maxLen ≤ 9223372036854775807 := by decide
    omega
  have hb := Below.refl w.heap.size w
  by_cases R : RIs a0
  · have c1 : ∀ w, Calls Try.prog 21 #[.string a0] w fun e w' => e = .returned (.tuple #[.int .i64 (rmin a0), .bool true]) ∧ Below w.heap.size w w' :=
      fun w => (of_any a0 w hs).mono fun e w' ⟨h, hx⟩ => ⟨of_both h (.inl ⟨rfl, R⟩), hx⟩
    have c2 : ∀ w, Calls Try.prog 22 #[.string a0] w fun e w' => e = .returned (.tuple #[.int .i64 (rmin a0), .bool true]) ∧ Below w.heap.size w w' :=
      fun w => (rof_any a0 w hs).mono fun e w' ⟨h, hx⟩ => ⟨by
        rcases h with ⟨h, _⟩ | ⟨_, h⟩
        · exact h
        · exact absurd R h, hx.below⟩
    obtain ⟨ht, _, hD⟩ := R.is
    have c3 : ∀ w, Calls Try.prog 19 #[.int .i64 (rmin a0)] w fun e w' => e = .returned (.string a0) ∧ Below w.heap.size w w' :=
      fun w => (text_any (rmin a0) w hD).mono fun e w' ⟨h, hx⟩ => ⟨by rw [h, ht], hx⟩
    clear R ht
    generalize rmin a0 = n at *
    go_enter Try.func5, Try.ntmps5
    go_wp2_with fail
    refine (c1 _).mono ?_
    rintro e w1 ⟨rfl, hx⟩
    replace hb := hb.trans (hx.mono hb.size)
    clear hx
    go_wp2_with fail
    refine (c2 _).mono ?_
    rintro e w2 ⟨rfl, hx⟩
    replace hb := hb.trans (hx.mono hb.size)
    clear hx
    go_wp2_with fail
    refine (c3 _).mono ?_
    rintro e w3 ⟨rfl, hx⟩
    replace hb := hb.trans (hx.mono hb.size)
    clear hx
    go_wp2_with fail
    refine (awake_any _).mono ?_
    rintro e w4 ⟨rfl, hx⟩
    replace hb := hb.trans (hx.mono hb.size)
    clear hx
    go_wp2_with fail
    go_ret
    exact ⟨rfl, hb⟩
  · have c1 : ∀ w, Calls Try.prog 21 #[.string a0] w fun e w' => e = .returned (.tuple #[.int .i64 0, .bool false]) ∧ Below w.heap.size w w' :=
      fun w => (of_any a0 w hs).mono fun e w' ⟨h, hx⟩ => ⟨of_both h (.inr ⟨rfl, R⟩), hx⟩
    have c2 : ∀ w, Calls Try.prog 22 #[.string a0] w fun e w' => e = .returned (.tuple #[.int .i64 0, .bool false]) ∧ Below w.heap.size w w' :=
      fun w => (rof_any a0 w hs).mono fun e w' ⟨h, hx⟩ => ⟨by
        rcases h with ⟨_, h⟩ | ⟨h, _⟩
        · exact absurd h R
        · exact h, hx.below⟩
    clear R
    go_enter Try.func5, Try.ntmps5
    go_wp2_with fail
    refine (c1 _).mono ?_
    rintro e w1 ⟨rfl, hx⟩
    replace hb := hb.trans (hx.mono hb.size)
    clear hx
    go_wp2_with fail
    refine (c2 _).mono ?_
    rintro e w2 ⟨rfl, hx⟩
    replace hb := hb.trans (hx.mono hb.size)
    clear hx
    go_wp2_with fail
    refine (awake_any _).mono ?_
    rintro e w4 ⟨rfl, hx⟩
    replace hb := hb.trans (hx.mono hb.size)
    clear hx
    go_wp2_with fail
    go_ret
    exact ⟨rfl, hb⟩

set_option maxRecDepth 100000 in
theorem lifted (os : Os) (started : os.Started) (H : Type) (enc : TypeId × Value → H) :
    ReturnsInHanded {} Try.checked os 5 .any (Rows.dayReadsSpec.pre6 enc Try.prog Try.f5 Rows.dayReadsRow.domain false) (Rows.dayReadsSpec.post enc Try.prog Try.f5 false true false false) := by
  refine returnsInHanded_of_change (C := Try.checked) own started (by kernel_rfl) Try.func5
    (ChangeSpec.witness6 (enc := enc) (C := Try.checked) false ⟨#[], #[.string ByteArray.empty], []⟩ 8 (by kernel_rfl) (by kernel_rfl) (by kernel_rfl) (by kernel_rfl)) ?_
  intro W base args ds gs before hval0 hW hcnd _
  have hval : ∀ (j : Nat) t v, Try.f5.params[j]? = some t → args[j]? = some v → Value.okWide Try.prog W .any base t v := hval0
  have hW' := hW
  obtain ⟨p, q, hA0, hV, rfl, hfz, hnd⟩ := hW
  have hA : DataW.TrodAll enc Try.prog W 0 (fun _ => true) true Try.f5.params.toList args.toList ds p := hA0
  rw [Try.params5] at hA hval
  obtain ⟨v0, vs0, d0, ds0, p0, q0, hargs, rfl, rfl, h0, r0⟩ := trodAll_cons hA
  obtain ⟨rfl, rfl, rfl⟩ := trodAll_nil r0
  obtain rfl : args = #[v0] := by cases args; simp_all
  obtain ⟨rfl, rfl⟩ := trodVars_none hV
  obtain ⟨a0, rfl, rfl, rfl, w0⟩ := open_string Try.underlying9 (hval 0 9 v0 rfl rfl) h0
  clear hA0 hval0
  refine (walk a0 w0 W).mono fun e W' ⟨he, bel⟩ => ?_
  subst he
  exact ⟨_, rfl, _, _, _, [], _, [], hW', trodAll_mk1 (shut_bool Try.underlying4 _), (trodAll_cons_mk (shut_string Try.underlying9 w0) trodAll_mk0), rfl, bel.frame _, fun h => by cases h⟩

theorem over : Rows.dayReadsRow.holds Try.pinned (OpenSpec.ofChange Rows.dayReadsSpec) :=
  OpenClaim.holds_of_wide 5 Try.f5 rfl rfl rfl rfl rfl rfl rfl ⟨rfl, rfl, rfl, rfl, rfl⟩ rfl rfl rfl rfl rfl (by kernel_rfl) Try.func5 (by kernel_rfl)
    (of_decide_eq_true (by kernel_rfl)) (by unfold Func.isWrapper; first | (rw [if_pos (by decide +kernel)]; kernel_rfl) | (rw [if_neg (by decide +kernel)]; exact ⟨rfl, rfl⟩))
    (fun os started H enc _ => lifted os started H enc)

/-- the statement -/
theorem proved : Rows.DayReadsSaid :=
  over
end Go.Proofs.Ytgjpopndjnbkaaa.dayReads
