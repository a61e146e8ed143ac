/-
  For every list of texts the law NumRows of package num returns true and leaves its argument as it was; there is no condition.
-/
import Derived.Test.YtdjejohppbkbcaaRows
import Derived.WalkKit
import Derived.ProofKit
import Derived.OpenShut
import Derived.ShutString
import Derived.SliceStrings
import Derived.SizedLaws
import Derived.Test.YtdjejohppbkbcaaNa
import Derived.Test.YtdjejohppbkbcaaNs
import Derived.Test.YtdjejohppbkbcaaNk
namespace Go.Proofs.Ytdjejohppbkbcaa.numRows
open Go.ChangeShapes Go.WideShapes Go.ChangeAt Go.RowKit
open Go.ChangeMaps (open_string shut_string)
open Go.Proofs.Ytdjejohppbkbcaa.Nm
set_option linter.unusedVariables false

theorem own : ownKnob Try.prog.godebug = none := by kernel_rfl
theorem laidOut : laidOutB Try.prog = true := by kernel_rfl

set_option maxRecDepth 100000 in
set_option maxHeartbeats 2000000 in
theorem walk (A : Option Addr) (len cap : Nat) (l : List ByteArray) (w : World) (hl : Ts w A len l) (hm : len ≤ 9223372036854775807) (hb : ∀ k, (nth l k).size ≤ 4611686018427387904) :
    Calls Try.prog 3 #[.slice A len cap] w fun e w' => e = .returned (.bool true) ∧ Below w.heap.size w w' := by
  have HB := Lib.hid hb
  clear hb
  go_enter Try.func3, Try.ntmps3
  go_wp2_with fail
  refine (alive_any _).mono ?_
  rintro e w1 ⟨rfl, hb1⟩
  have l1 := hl.below hb1
  go_wp2_with fail
  refine (long_any _ _ _ l _ l1 hm HB.out).mono ?_
  rintro e w2 ⟨he, rfl⟩
  rcases he with rfl | ⟨rfl, hbulk⟩
  · go_wp2_with fail
    go_ret
    exact ⟨rfl, hb1⟩
  · have hll := len_le_bulk l
    have hlen : len ≤ 5000 := by rw [← hl.1]; omega
    have hrm := room_le_bulk l
    have htx := texts_of_bulk hbulk
    have hst := rowB_length_le l (by omega)
    have HT := Lib.hid htx
    clear htx hll
    have hsz : (⟨(Nu.rowB (l.map toL)).toArray⟩ : ByteArray).size = (Nu.rowB (l.map toL)).length := by rw [← toL_length]; rfl
    have c2 := texts_any ⟨(Nu.rowB (l.map toL)).toArray⟩
    have c3 : ∀ w, Calls Try.prog 17 #[.string ⟨(Nu.rowB (l.map toL)).toArray⟩] w fun e w' => (∃ A c, e = .returned (.tuple #[.slice A l.length c, .int .i64 0]) ∧ Ts w' A l.length l) ∧ Below w.heap.size w w' := by
      intro w
      refine (c2 w (by rw [hsz]; omega)).mono ?_
      rintro e w' ⟨A, c, l', h1, h2, h3, h4⟩
      have e1 : Nu.texts (toL ⟨(Nu.rowB (l.map toL)).toArray⟩) = (l.map toL, 0) := HT.out
      rw [e1] at h1 h3
      have hl' : l' = l := map_toL_inj h3
      subst hl'
      exact ⟨⟨A, c, h1, h2⟩, h4⟩
    have C3 := Lib.hid c3
    clear c2 c3 hsz hst
    go_wp2_with fail
    refine (row_any _ _ _ l _ l1 (by omega) (by omega)).mono ?_
    rintro e w3 ⟨rfl, hb3⟩
    have l3 := l1.below hb3
    go_wp2_with fail
    refine (C3.out _).mono ?_
    rintro e w4 ⟨⟨A4, c4, rfl, t4⟩, hb4⟩
    have l4 := l3.below hb4
    go_wp2_with fail
    refine (rrow_any _ _ _ l _ l4 (by omega) (by omega)).mono ?_
    rintro e w5 ⟨rfl, hb5⟩
    have l5 := l4.below hb5
    have t5 := t4.below hb5
    have hlen2 : l.length ≤ 5000 := by rw [l1.1]; exact hlen
    go_wp2_with fail
    refine (same_any _ _ _ _ _ _ l l _ t5 l5 (by omega) (by omega)).mono ?_
    rintro e w6 ⟨rfl, hd6⟩
    go_wp2_with fail
    go_ret
    have z3 := hb1.trans (hb3.mono hb1.size)
    have z4 := z3.trans (hb4.mono z3.size)
    have z5 := z4.trans (hb5.mono z4.size)
    exact ⟨rfl, below_dr z5 hd6⟩

set_option maxRecDepth 100000 in
theorem lifted (os : Os) (started : os.Started) (H : Type) (enc : TypeId × Value → H) :
    ReturnsInHanded {} Try.checked os 3 .any (Rows.numRowsSpec.pre6 enc Try.prog Try.f3 Rows.numRowsRow.domain false) (Rows.numRowsSpec.post enc Try.prog Try.f3 false true false false) := by
  refine returnsInHanded_of_change_sized (C := Try.checked) own started (by kernel_rfl) Try.func3
    (ChangeSpec.witness6 (enc := enc) (C := Try.checked) false ⟨#[], #[.slice none 0 0], []⟩ 8 (by kernel_rfl) (by kernel_rfl) (by kernel_rfl) (by kernel_rfl)) ?_
  intro W base args ds gs before hval0 hW hcnd hsz0 _
  have hval : ∀ (j : Nat) t v, Try.f3.params[j]? = some t → args[j]? = some v → Value.okWide Try.prog W .any base t v := hval0
  have hsz : (DataW.weightsEach Try.prog (Try.f3.params.toList ++ Rows.numRowsSpec.plain.varTypes Try.prog) (ds ++ gs)).all (· ≤ reachBytes) = true := hsz0
  have hW' := hW
  obtain ⟨p, q, hA0, hV, rfl, hfz, hnd⟩ := hW
  have hA : DataW.TrodAll enc Try.prog W 0 (fun _ => true) true Try.f3.params.toList args.toList ds p := hA0
  rw [Try.params3] at hA hval hsz
  obtain ⟨v0, vs0, d0, ds0, p0, q0, hargs, rfl, rfl, h0, r0⟩ := trodAll_cons hA
  obtain ⟨rfl, rfl, rfl⟩ := trodAll_nil r0
  obtain rfl : args = #[v0] := by cases args; simp_all
  obtain ⟨rfl, rfl⟩ := trodVars_none hV
  obtain ⟨a0, len0, cap0, rfl⟩ := okWide_slice Try.underlying22 (hval 0 22 v0 rfl rfl)
  have k0 := h0
  have lt0 : ∀ x ∈ p0, x.block < W.heap.size := by obtain ⟨m, hm⟩ := k0; exact DataW.trod_lt m _ _ _ hm
  obtain ⟨l0, t0, m0, s0⟩ := texts_arg hsz (j := 0) rfl rfl h0
  clear hA0 hval0 hsz0
  refine (walk a0 len0 cap0 l0 W t0 m0 s0).mono fun e W' ⟨he, bel⟩ => ?_
  subst he
  exact ⟨_, rfl, _, _, _, [], _, [], hW', trodAll_mk1 (shut_bool Try.underlying4 _), (trodAll_cons_mk (Below.trod laidOut (by kernel_rfl) (of_decide_eq_true (by kernel_rfl)) k0 bel lt0) trodAll_mk0), rfl, bel.frame _, fun h => by cases h⟩

theorem over : Rows.numRowsRow.holds Try.pinned (OpenSpec.ofChange Rows.numRowsSpec) :=
  OpenClaim.holds_of_wide 3 Try.f3 rfl rfl rfl rfl rfl rfl rfl ⟨rfl, rfl, rfl, rfl, rfl⟩ rfl rfl rfl rfl rfl (by kernel_rfl) Try.func3 (by kernel_rfl)
    (of_decide_eq_true (by kernel_rfl)) (by unfold Func.isWrapper; first | (rw [if_pos (by decide +kernel)]; kernel_rfl) | (rw [if_neg (by decide +kernel)]; exact ⟨rfl, rfl⟩))
    (fun os started H enc _ => lifted os started H enc)

/-- the statement -/
theorem proved : Rows.NumRowsSaid := over
end Go.Proofs.Ytdjejohppbkbcaa.numRows
