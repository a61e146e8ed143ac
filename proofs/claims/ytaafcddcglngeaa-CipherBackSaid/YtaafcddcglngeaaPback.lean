/-
  For every key, nonce, number and text the law CipherBack of package cipher returns true and leaves its arguments as they were; there is no condition.
-/
import Derived.Test.YtaafcddcglngeaaRows
import Derived.WalkKit
import Derived.ProofKit
import Derived.OpenShut
import Derived.ShutString
import Derived.Test.YtaafcddcglngeaaLk
namespace Go.Proofs.Ytaafcddcglngeaa.cipherBack
open Go.ChangeShapes Go.WideShapes Go.ChangeAt Go.RowKit
open Go.ChangeMaps (open_string shut_string)
set_option linter.unusedVariables false

theorem own : ownKnob Try.prog.godebug = none := by kernel_rfl
theorem laidOut : laidOutB Try.prog = true := by kernel_rfl

set_option maxRecDepth 100000 in
set_option maxHeartbeats 4000000 in
theorem walk (K N : List Nat) (n : Nat) (s : ByteArray) (hK : Ch.By K) (hN : Ch.By N) (lK : K.length = 32) (lN : N.length = 12) (hn : n < 4294967296) (ws : s.size ≤ maxLen) (w : World) :
    Calls Try.prog 5 #[.agg (caseL K N n).toArray, .string s] w fun e w' => e = .returned (.bool true) ∧ Below w.heap.size w w' := by
  have hsz : s.size ≤ 9223372036854775807 := by
    have : maxLen ≤ 9223372036854775807 := by decide
    omega
  obtain ⟨W0, hW0⟩ : ∃ W0, W0 = w.alloc (Obj.cells (caseL K N n).toArray 31) := ⟨_, rfl⟩
  have hb : Below w.heap.size w W0 := by rw [hW0]; exact (Below.refl _ w).alloc (by simp) _
  obtain ⟨r1, r2, c3⟩ : W0.rangeAt w.heap.size 0 (vl K) ∧ W0.rangeAt w.heap.size 32 (vl N) ∧ W0.cell? ⟨w.heap.size, 44, none⟩ = some (.int .u32 (n : Int)) := by
    rw [hW0]; exact case_ranges lK lN (Own.new _ _ _)
  have HW0 := Lib.hid hW0
  clear hW0
  by_cases hbig : 5000 < s.size
  · go_enter Try.func5, Try.ntmps5
    go_wp2_with fail
    rw [← HW0.out]
    refine (fixed_any _).mono ?_
    rintro e w1 ⟨rfl, hx⟩
    have hb := hb.trans (hx.mono hb.size)
    go_wp2_with fail
    go_ret
    exact ⟨rfl, hb⟩
  · have hc := fun w => cxor_any K N n s hK hN lK lN hn (by omega) w
    have hc2 := fun w => cxor_any K N n (bs (xs K N n (tn s))) hK hN lK lN hn (by rw [xs_size]; omega) w
    rw [twice] at hc2
    have hxz := xs_size K N n s
    generalize bs (xs K N n (tn s)) = X at *
    have c3' := c3
    rw [HW0.out] at c3'
    go_enter Try.func5, Try.ntmps5
    go_wp2_with (first | (refine ldg t23 rfl rfl rfl (by have := r1; rw [HW0.out] at this; exact this) lK ?_) | (refine ldg t24 rfl rfl rfl (by have := r2; rw [HW0.out] at this; exact this) lN ?_))
    rw [← HW0.out]
    clear HW0 c3'
    refine (hc _).mono ?_
    rintro e w1 ⟨rfl, hx⟩
    obtain ⟨r1, r2, c3, hb⟩ := held3 ⟨r1, r2, c3, hb⟩ hx
    clear hx hc
    go_wp2_with fail
    refine (fixed_any _).mono ?_
    rintro e w2 ⟨rfl, hx⟩
    obtain ⟨r1, r2, c3, hb⟩ := held3 ⟨r1, r2, c3, hb⟩ hx
    clear hx
    go_wp2_with (first | (refine ldg t23 rfl rfl rfl r1 lK ?_) | (refine ldg t24 rfl rfl rfl r2 lN ?_))
    refine (hc2 _).mono ?_
    rintro e w3 ⟨rfl, hx⟩
    have hb := hb.trans (hx.mono hb.size)
    go_wp2_with fail
    go_ret
    exact ⟨rfl, hb⟩

set_option maxRecDepth 100000 in
theorem lifted (os : Os) (started : os.Started) (H : Type) (enc : TypeId × Value → H) :
    ReturnsInHanded {} Try.checked os 5 .any (Rows.cipherBackSpec.pre6 enc Try.prog Try.f5 Rows.cipherBackRow.domain false) (Rows.cipherBackSpec.post enc Try.prog Try.f5 false true false false) := by
  refine returnsInHanded_of_change (C := Try.checked) own started (by kernel_rfl) Try.func5
    (ChangeSpec.witness6 (enc := enc) (C := Try.checked) false ⟨#[], #[.agg (Array.replicate 44 (.int .u8 0) ++ #[.int .u32 0]), .string ByteArray.empty], []⟩ 8 (by kernel_rfl) (by kernel_rfl) (by kernel_rfl) (by kernel_rfl)) ?_
  intro W base args ds gs before hval0 hW hcnd _
  have hval : ∀ (j : Nat) t v, Try.f5.params[j]? = some t → args[j]? = some v → Value.okWide Try.prog W .any base t v := hval0
  have hW' := hW
  obtain ⟨p, q, hA0, hV, rfl, hfz, hnd⟩ := hW
  have hA : DataW.TrodAll enc Try.prog W 0 (fun _ => true) true Try.f5.params.toList args.toList ds p := hA0
  rw [Try.params5] at hA hval
  obtain ⟨v0, vs0, d0, ds0, p0, q0, hargs, rfl, rfl, h0, r0⟩ := trodAll_cons hA
  obtain ⟨v1, vs1, d1, ds1, p1, q1, rfl, rfl, rfl, h1, r1⟩ := trodAll_cons r0
  obtain ⟨rfl, rfl, rfl⟩ := trodAll_nil r1
  obtain rfl : args = #[v0, v1] := by cases args; simp_all
  obtain ⟨rfl, rfl⟩ := trodVars_none hV
  obtain ⟨K0, N0, n0, rfl, l0, m0, b0, c0, z0⟩ := okCase (hval 0 31 v0 rfl rfl)
  have k0 := h0
  have lt0 : ∀ x ∈ p0, x.block < W.heap.size := by obtain ⟨m, hm⟩ := k0; exact DataW.trod_lt m _ _ _ hm
  obtain ⟨a1, rfl, rfl, rfl, w1⟩ := open_string Try.underlying9 (hval 1 9 v1 rfl rfl) h1
  clear hA0 hval0
  refine (walk K0 N0 n0 a1 b0 c0 l0 m0 z0 w1 W).mono fun e W' ⟨he, bel⟩ => ?_
  subst he
  exact ⟨_, rfl, _, _, _, [], _, [], hW', trodAll_mk1 (shut_bool Try.underlying4 _), (trodAll_cons_mk (Below.trod laidOut (by kernel_rfl) (of_decide_eq_true (by kernel_rfl)) k0 bel lt0) (trodAll_cons_mk (shut_string Try.underlying9 w1) trodAll_mk0)), rfl, bel.frame _, fun h => by cases h⟩

theorem over : Rows.cipherBackRow.holds Try.pinned (OpenSpec.ofChange Rows.cipherBackSpec) :=
  OpenClaim.holds_of_wide 5 Try.f5 rfl rfl rfl rfl rfl rfl rfl ⟨rfl, rfl, rfl, rfl, rfl⟩ rfl rfl rfl rfl rfl (by kernel_rfl) Try.func5 (by kernel_rfl)
    (of_decide_eq_true (by kernel_rfl)) (by unfold Func.isWrapper; first | (rw [if_pos (by decide +kernel)]; kernel_rfl) | (rw [if_neg (by decide +kernel)]; exact ⟨rfl, rfl⟩))
    (fun os started H enc _ => lifted os started H enc)

/-- the statement -/
theorem proved : Rows.CipherBackSaid := over
end Go.Proofs.Ytaafcddcglngeaa.cipherBack
