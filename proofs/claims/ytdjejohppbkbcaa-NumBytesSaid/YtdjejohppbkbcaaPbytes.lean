/-
  For every number, every size and every text the law NumBytes of package num returns true and leaves its arguments as they were; there is no condition.
-/
import Derived.Test.YtdjejohppbkbcaaRows
import Derived.WalkKit
import Derived.ProofKit
import Derived.OpenShut
import Derived.ShutString
import Derived.Below
import Derived.Test.YtdjejohppbkbcaaNa
namespace Go.Proofs.Ytdjejohppbkbcaa.numBytes
open Go.ChangeShapes Go.WideShapes Go.ChangeAt Go.RowKit
open Go.ChangeMaps (open_string shut_string)
set_option linter.unusedVariables false

theorem own : ownKnob Try.prog.godebug = none := by kernel_rfl

open Go.Proofs.Ytdjejohppbkbcaa Go.Proofs.Ytdjejohppbkbcaa.Nm in
set_option maxRecDepth 100000 in
set_option maxHeartbeats 2000000 in
theorem walk (a0 : Int) (a1 : Int) (s : ByteArray) (w0 : (Lit.int .u64 a0).wf = true) (w1 : (Lit.int .i64 a1).wf = true) (w2 : s.size ≤ maxLen) (w : World) :
    Calls Try.prog 6 #[.int .u64 a0, .int .i64 a1, .string s] w fun e w' => e = .returned (.bool true) ∧ Below w.heap.size w w' := by
  have b0 := bounds_u64 w0
  obtain ⟨n, rfl⟩ := Int.eq_ofNat_of_zero_le b0.1
  have hn : n < 18446744073709551616 := by omega
  have HN := Lib.hid hn
  have hs : s.size ≤ 9223372036854775807 := by unfold maxLen at w2; omega
  obtain ⟨K, eK⟩ : ∃ K : Nat, min (max a1 0) 8 = (K : Int) := ⟨(min (max a1 0) 8).toNat, by omega⟩
  have pn := fun w => put_any n a1 K w hn eK
  have rn := fun w => rput_any n a1 K w hn eK
  have p8 := fun w => put_any n 8 8 w hn (by decide)
  have PN := Lib.hid pn
  have RN := Lib.hid rn
  have P8 := Lib.hid p8
  have l8 : low ⟨(Nu.putB n 8).toArray⟩ = Nu.putB n 8 := by
    show ((Nu.putB n 8).toArray.toList).take 8 = _
    simp [List.take_of_length_le, Nu.putB_length]
  have g8 : ∀ w, Calls Try.prog 23 #[.string ⟨(Nu.putB n 8).toArray⟩] w fun e w' => e = .returned (.int .u64 (n : Nat)) ∧ w = w' := by
    intro w
    have h := get_any ⟨(Nu.putB n 8).toArray⟩ w (by show (Nu.putB n 8).toArray.size ≤ _; simp [Nu.putB_length])
    rw [l8, Nu.get_put, Nat.mod_eq_of_lt (by omega)] at h
    exact h
  have G8 := Lib.hid g8
  have sz8 : (Nu.putB n 8).length = 8 := Nu.putB_length n 8
  clear w0 w1 w2 b0 hn eK pn rn p8 l8 g8
  by_cases h1 : 100 < s.size
  · go_enter Try.func6, Try.ntmps6
    go_wp2_with fail
    refine (alive_any _).mono ?_
    rintro e w1 ⟨rfl, hb⟩
    go_wp2_with fail
    go_ret
    exact ⟨rfl, hb⟩
  · have key : s.size ≤ 8 → ∀ w, Calls Try.prog 21 #[.int .u64 (Nu.getB (low s) : Nat), .int .i64 (s.size : Int)] w fun e w' => e = .returned (.string s) ∧ Below w.heap.size w w' := by
      intro h w
      have hl : low s = toL s := by unfold low; rw [List.take_of_length_le (by rw [toL_length]; exact h)]
      have hlt := Nu.getB_lt (low s)
      have hp : 256 ^ (low s).length ≤ 256 ^ 8 := Nat.pow_le_pow_right (by omega) (by rw [low_length]; omega)
      have h := put_any (Nu.getB (low s)) (s.size : Int) s.size w (by omega) (by omega)
      rw [hl] at h ⊢
      have e : Nu.putB (Nu.getB (toL s)) s.size = toL s := by
        have := Nu.put_get (toL s)
        rwa [toL_length] at this
      rw [e, str_eta] at h
      exact h
    have KEY := Lib.hid key
    clear key
    go_enter Try.func6, Try.ntmps6
    go_wp2_with fail
    refine (alive_any _).mono ?_
    rintro e w1 ⟨rfl, hb⟩
    go_wp2_with fail
    refine (PN.out _).mono ?_
    rintro e w2 ⟨rfl, hb2⟩
    go_wp2_with fail
    refine (RN.out _).mono ?_
    rintro e w3 ⟨rfl, hb3⟩
    go_wp2_with fail
    refine (get_any s _ hs).mono ?_
    rintro e w4 ⟨rfl, rfl⟩
    go_wp2_with fail
    refine (rget_any s _ hs).mono ?_
    rintro e w4 ⟨rfl, rfl⟩
    go_wp2_with fail
    refine (P8.out _).mono ?_
    rintro e w4 ⟨rfl, hb4⟩
    go_wp2_with fail
    refine (G8.out _).mono ?_
    rintro e w5 ⟨rfl, rfl⟩
    go_wp2_with fail
    refine (P8.out _).mono ?_
    rintro e w5 ⟨rfl, hb5⟩
    have z3 := (hb.trans (hb2.mono hb.size)).trans (hb3.mono (Nat.le_trans hb.size hb2.size))
    have z4 := z3.trans (hb4.mono z3.size)
    have z5 := z4.trans (hb5.mono z4.size)
    clear hb hb2 hb3 hb4 hb5 z3 z4
    by_cases h8 : 8 < s.size
    · go_wp2_with fail
      go_ret
      exact ⟨rfl, z5⟩
    · have KEY2 := Lib.hid (KEY.out (by omega))
      go_wp2_with fail
      refine (get_any s _ hs).mono ?_
      rintro e w6 ⟨rfl, rfl⟩
      go_wp2_with fail
      refine (KEY2.out _).mono ?_
      rintro e w6 ⟨rfl, hb6⟩
      go_wp2_with fail
      go_ret
      exact ⟨rfl, z5.trans (hb6.mono z5.size)⟩

set_option maxRecDepth 100000 in
theorem lifted (os : Os) (started : os.Started) (H : Type) (enc : TypeId × Value → H) :
    ReturnsInHanded {} Try.checked os 6 .any (Rows.numBytesSpec.pre6 enc Try.prog Try.f6 Rows.numBytesRow.domain false) (Rows.numBytesSpec.post enc Try.prog Try.f6 false true false false) := by
  refine returnsInHanded_of_change (C := Try.checked) own started (by kernel_rfl) Try.func6
    (ChangeSpec.witness6 (enc := enc) (C := Try.checked) false ⟨#[], #[.int .u64 0, .int .i64 0, .string ByteArray.empty], []⟩ 8 (by kernel_rfl) (by kernel_rfl) (by kernel_rfl) (by kernel_rfl)) ?_
  intro W base args ds gs before hval0 hW hcnd _
  have hval : ∀ (j : Nat) t v, Try.f6.params[j]? = some t → args[j]? = some v → Value.okWide Try.prog W .any base t v := hval0
  have hW' := hW
  obtain ⟨p, q, hA0, hV, rfl, hfz, hnd⟩ := hW
  have hA : DataW.TrodAll enc Try.prog W 0 (fun _ => true) true Try.f6.params.toList args.toList ds p := hA0
  rw [Try.params6] at hA hval
  obtain ⟨v0, vs0, d0, ds0, p0, q0, hargs, rfl, rfl, h0, r0⟩ := trodAll_cons hA
  obtain ⟨v1, vs1, d1, ds1, p1, q1, rfl, rfl, rfl, h1, r1⟩ := trodAll_cons r0
  obtain ⟨v2, vs2, d2, ds2, p2, q2, rfl, rfl, rfl, h2, r2⟩ := trodAll_cons r1
  obtain ⟨rfl, rfl, rfl⟩ := trodAll_nil r2
  obtain rfl : args = #[v0, v1, v2] := by cases args; simp_all
  obtain ⟨rfl, rfl⟩ := trodVars_none hV
  obtain ⟨a0, rfl, rfl, rfl, w0⟩ := open_int Try.underlying34 (hval 0 34 v0 rfl rfl) h0
  obtain ⟨a1, rfl, rfl, rfl, w1⟩ := open_int Try.underlying3 (hval 1 3 v1 rfl rfl) h1
  obtain ⟨a2, rfl, rfl, rfl, w2⟩ := open_string Try.underlying9 (hval 2 9 v2 rfl rfl) h2
  clear hA0 hval0
  refine (walk a0 a1 a2 w0 w1 w2 W).mono fun e W' ⟨he, bel⟩ => ?_
  subst he
  exact ⟨_, rfl, _, _, _, [], _, [], hW', trodAll_mk1 (shut_bool Try.underlying4 _), (trodAll_cons_mk (shut_int Try.underlying34 w0) (trodAll_cons_mk (shut_int Try.underlying3 w1) (trodAll_cons_mk (shut_string Try.underlying9 w2) trodAll_mk0))), rfl, bel.frame _, fun h => by cases h⟩

theorem over : Rows.numBytesRow.holds Try.pinned (OpenSpec.ofChange Rows.numBytesSpec) :=
  OpenClaim.holds_of_wide 6 Try.f6 rfl rfl rfl rfl rfl rfl rfl ⟨rfl, rfl, rfl, rfl, rfl⟩ rfl rfl rfl rfl rfl (by kernel_rfl) Try.func6 (by kernel_rfl)
    (of_decide_eq_true (by kernel_rfl)) (by unfold Func.isWrapper; first | (rw [if_pos (by decide +kernel)]; kernel_rfl) | (rw [if_neg (by decide +kernel)]; exact ⟨rfl, rfl⟩))
    (fun os started H enc _ => lifted os started H enc)

/-- the statement -/
theorem proved : Rows.NumBytesSaid :=
  over
end Go.Proofs.Ytdjejohppbkbcaa.numBytes
