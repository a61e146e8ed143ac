/-
  For every three bytes the law FieldLaws of package field returns true and leaves its arguments as they were; there is no condition.
-/
import Derived.Test.YtdjejohppbkbcaaRows
import Derived.WalkKit
import Derived.ProofKit
import Derived.OpenShut
import Derived.ShutString
import Derived.Below
import Derived.Test.YtdjejohppbkbcaaFx
namespace Go.Proofs.Ytdjejohppbkbcaa.fieldLaws
open Go.ChangeShapes Go.WideShapes Go.ChangeAt Go.RowKit
open Go.ChangeMaps (open_string shut_string)
set_option linter.unusedVariables false

theorem own : ownKnob Try.prog.godebug = none := by kernel_rfl

open Go.Proofs.Ytdjejohppbkbcaa in
set_option maxHeartbeats 1000000 in
theorem walk (a0 : Int) (a1 : Int) (a2 : Int) (w0 : (Lit.int .u8 a0).wf = true) (w1 : (Lit.int .u8 a1).wf = true) (w2 : (Lit.int .u8 a2).wf = true) (w : World) :
    Calls Try.prog 9 #[.int .u8 a0, .int .u8 a1, .int .u8 a2] w fun e w' => e = .returned (.bool true) ∧ Below w.heap.size w w' := by
  have b0 := bounds_u8 w0
  have b1 := bounds_u8 w1
  have b2 := bounds_u8 w2
  obtain ⟨A, rfl⟩ := Int.eq_ofNat_of_zero_le b0.1
  obtain ⟨B, rfl⟩ := Int.eq_ofNat_of_zero_le b1.1
  obtain ⟨C, rfl⟩ := Int.eq_ofNat_of_zero_le b2.1
  have hA : A < 256 := by omega
  have hB : B < 256 := by omega
  have hC : C < 256 := by omega
  clear w0 w1 w2 b0 b1 b2
  have lAB := Gf.mul_lt A B hA
  have lBC := Gf.mul_lt B C hB
  have lAC := Gf.mul_lt A C hA
  have lx := Gf.xor_lt hB hC
  have li := Gf.inv_lt A hA
  have x1 := xor8 B C hB hC
  have x2 := xor8 (Gf.mul A B) (Gf.mul A C) lAB lAC
  have t1 : ((Gf.mul A B : Int) != (Gf.mul B A : Int)) = false := by rw [Gf.mul_comm A B hA hB]; simp
  have t2 : ((Gf.mul (Gf.mul A B) C : Int) != (Gf.mul A (Gf.mul B C) : Int)) = false := by rw [Gf.mul_assoc A B C hA hB hC]; simp
  have t3 : ((Gf.mul A (B ^^^ C) : Int) != ((Gf.mul A B ^^^ Gf.mul A C : Nat) : Int)) = false := by rw [Gf.mul_add_right]; simp
  have m1 : ∀ w, Calls Try.prog 26 #[.int .u8 (A : Int), .int .u8 1] w fun e w' => e = .returned (.int .u8 (Gf.mul A 1 : Nat)) ∧ w = w' := fun w => mul_any A 1 w hA (by omega)
  have M1 := Lib.hid m1
  clear m1
  by_cases h0 : A = 0
  · have t4 : ((A : Int) == 0) = true := by simp [h0]
    have t5 : ((Gf.mul A B : Int) == 0) = true := by rw [h0, Gf.zero_mul]; rfl
    have t6 : ((Gf.inv A : Int) == 0) = true := by rw [h0, Gf.inv_zero]; rfl
    clear h0
    go_enter Try.func9, Try.ntmps9
    go_wp2_with fail
    refine (alive_any _).mono ?_
    rintro e w1 ⟨rfl, hb⟩
    go_wp2_with (first | (go_at_call 26; refine (mul_any _ _ _ (by omega) (by omega)).mono ?_; rintro e w' ⟨rfl, rfl⟩) | (go_at_call 28; refine (inv_any _ _ (by omega)).mono ?_; rintro e w' ⟨rfl, rfl⟩))
    go_ret
    exact ⟨rfl, hb⟩
  · have t4 : ((A : Int) == 0) = false := by rw [beq_eq_false_iff_ne]; omega
    have t5 : ((Gf.mul A 1 : Int) == (A : Int)) = true := by rw [Gf.mul_one A hA]; simp
    have t6 : ((Gf.mul A (Gf.inv A) : Int) == 1) = true := by rw [Gf.mul_inv A hA h0]; rfl
    have t7 : ((Gf.inv (Gf.inv A) : Int) == (A : Int)) = true := by rw [Gf.inv_inv A hA h0]; simp
    by_cases hb0 : B = 0
    · have t8 : ((B : Int) == 0) = true := by simp [hb0]
      clear h0 hb0
      go_enter Try.func9, Try.ntmps9
      go_wp2_with fail
      refine (alive_any _).mono ?_
      rintro e w1 ⟨rfl, hb⟩
      go_wp2_with (first | (go_at_call 26; ((with_reducible refine (M1.out _).mono ?_); rintro e w' ⟨rfl, rfl⟩)) | (go_at_call 26; refine (mul_any _ _ _ (by omega) (by omega)).mono ?_; rintro e w' ⟨rfl, rfl⟩) | (go_at_call 28; refine (inv_any _ _ (by omega)).mono ?_; rintro e w' ⟨rfl, rfl⟩))
      go_ret
      exact ⟨rfl, hb⟩
    · have t8 : ((B : Int) == 0) = false := by rw [beq_eq_false_iff_ne]; omega
      have t9 : ((Gf.mul A B : Int) != 0) = true := by rw [bne_iff_ne]; have := Gf.no_zero A B hA hB h0 hb0; omega
      clear h0 hb0
      go_enter Try.func9, Try.ntmps9
      go_wp2_with fail
      refine (alive_any _).mono ?_
      rintro e w1 ⟨rfl, hb⟩
      go_wp2_with (first | (go_at_call 26; ((with_reducible refine (M1.out _).mono ?_); rintro e w' ⟨rfl, rfl⟩)) | (go_at_call 26; refine (mul_any _ _ _ (by omega) (by omega)).mono ?_; rintro e w' ⟨rfl, rfl⟩) | (go_at_call 28; refine (inv_any _ _ (by omega)).mono ?_; rintro e w' ⟨rfl, rfl⟩))
      go_ret
      exact ⟨rfl, hb⟩

set_option maxRecDepth 100000 in
theorem lifted (os : Os) (started : os.Started) (H : Type) (enc : TypeId × Value → H) :
    ReturnsInHanded {} Try.checked os 9 .any (Rows.fieldLawsSpec.pre6 enc Try.prog Try.f9 Rows.fieldLawsRow.domain false) (Rows.fieldLawsSpec.post enc Try.prog Try.f9 false true false false) := by
  refine returnsInHanded_of_change (C := Try.checked) own started (by kernel_rfl) Try.func9
    (ChangeSpec.witness6 (enc := enc) (C := Try.checked) false ⟨#[], #[.int .u8 0, .int .u8 0, .int .u8 0], []⟩ 8 (by kernel_rfl) (by kernel_rfl) (by kernel_rfl) (by kernel_rfl)) ?_
  intro W base args ds gs before hval0 hW hcnd _
  have hval : ∀ (j : Nat) t v, Try.f9.params[j]? = some t → args[j]? = some v → Value.okWide Try.prog W .any base t v := hval0
  have hW' := hW
  obtain ⟨p, q, hA0, hV, rfl, hfz, hnd⟩ := hW
  have hA : DataW.TrodAll enc Try.prog W 0 (fun _ => true) true Try.f9.params.toList args.toList ds p := hA0
  rw [Try.params9] at hA hval
  obtain ⟨v0, vs0, d0, ds0, p0, q0, hargs, rfl, rfl, h0, r0⟩ := trodAll_cons hA
  obtain ⟨v1, vs1, d1, ds1, p1, q1, rfl, rfl, rfl, h1, r1⟩ := trodAll_cons r0
  obtain ⟨v2, vs2, d2, ds2, p2, q2, rfl, rfl, rfl, h2, r2⟩ := trodAll_cons r1
  obtain ⟨rfl, rfl, rfl⟩ := trodAll_nil r2
  obtain rfl : args = #[v0, v1, v2] := by cases args; simp_all
  obtain ⟨rfl, rfl⟩ := trodVars_none hV
  obtain ⟨a0, rfl, rfl, rfl, w0⟩ := open_int Try.underlying5 (hval 0 5 v0 rfl rfl) h0
  obtain ⟨a1, rfl, rfl, rfl, w1⟩ := open_int Try.underlying5 (hval 1 5 v1 rfl rfl) h1
  obtain ⟨a2, rfl, rfl, rfl, w2⟩ := open_int Try.underlying5 (hval 2 5 v2 rfl rfl) h2
  clear hA0 hval0
  refine (walk a0 a1 a2 w0 w1 w2 W).mono fun e W' ⟨he, bel⟩ => ?_
  subst he
  exact ⟨_, rfl, _, _, _, [], _, [], hW', trodAll_mk1 (shut_bool Try.underlying4 _), (trodAll_cons_mk (shut_int Try.underlying5 w0) (trodAll_cons_mk (shut_int Try.underlying5 w1) (trodAll_cons_mk (shut_int Try.underlying5 w2) trodAll_mk0))), rfl, bel.frame _, fun h => by cases h⟩

theorem over : Rows.fieldLawsRow.holds Try.pinned (OpenSpec.ofChange Rows.fieldLawsSpec) :=
  OpenClaim.holds_of_wide 9 Try.f9 rfl rfl rfl rfl rfl rfl rfl ⟨rfl, rfl, rfl, rfl, rfl⟩ rfl rfl rfl rfl rfl (by kernel_rfl) Try.func9 (by kernel_rfl)
    (of_decide_eq_true (by kernel_rfl)) (by unfold Func.isWrapper; first | (rw [if_pos (by decide +kernel)]; kernel_rfl) | (rw [if_neg (by decide +kernel)]; exact ⟨rfl, rfl⟩))
    (fun os started H enc _ => lifted os started H enc)

/-- the statement -/
theorem proved : Rows.FieldLawsSaid :=
  over
end Go.Proofs.Ytdjejohppbkbcaa.fieldLaws
