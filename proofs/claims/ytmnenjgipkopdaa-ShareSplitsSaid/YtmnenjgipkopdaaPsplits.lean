/-
  For every secret, number and noise ShareSplits answers true: the shares, or the error, are the document's; the arguments read as before.
-/
import Derived.Test.YtmnenjgipkopdaaRows
import Derived.Test.YtmnenjgipkopdaaOk
import Derived.WalkKit
import Derived.ProofKit
import Derived.OpenShut
import Derived.ShutString
namespace Go.Proofs.Ytmnenjgipkopdaa.shareSplits
open Go.ChangeShapes Go.WideShapes Go.ChangeAt Go.RowKit
open Go.ChangeMaps (open_string shut_string)
set_option linter.unusedVariables false
set_option linter.unusedSimpArgs false

theorem own : ownKnob Try.prog.godebug = none := by kernel_rfl
theorem ss_len {w : World} {A : Option Addr} {n : Nat} {l : List (List Nat)} (h : Ss w A n l) : l.length = n := h.1
set_option maxRecDepth 100000 in
set_option maxHeartbeats 2000000 in
theorem walk (K : List Nat) (n : Int) (N : ByteArray) (hK : Gf.Bytes K) (lK : K.length = 32) (hn : -9223372036854775808 ≤ n ∧ n ≤ 9223372036854775807) (hN : N.size ≤ maxLen) (W : World) :
    Calls Try.prog 3 #[.agg (vs K), .int .i64 n, .string N] W fun e w' => e = .returned (.bool true) ∧ Below W.heap.size W w' := by
  have hN0 := hN
  unfold maxLen at hN
  obtain ⟨h1, h2⟩ := hn
  have HK := Lib.hid (And.intro hK lK)
  clear hK lK
  have o0 := Own.new W 23 (vs K)
  have bW := (Below.refl W.heap.size W).alloc (Nat.le_refl _) (Obj.cells (vs K) 23)
  have hal := alive_any (W.alloc (Obj.cells (vs K) 23))
  by_cases hbig : 200 < N.size
  · have d0 : 200 < (N.size : Int) := by omega
    go_enter Try.func3, Try.ntmps3
    go_wp2_with fail
    refine hal.mono ?_
    rintro e w1 ⟨rfl, hb⟩
    replace bW := bW.trans (hb.mono bW.size)
    go_wp2_with fail
    go_ret
    exact ⟨rfl, bW⟩
  · have d0 : decide (200 < (N.size : Int)) = false := by rw [decide_eq_false_iff_not]; omega
    by_cases hgood : 3 ≤ n ∧ n ≤ 255 ∧ N.size = 64
    · obtain ⟨g1, g2, g3⟩ := hgood
      obtain ⟨m, rfl⟩ := Int.eq_ofNat_of_zero_le (show 0 ≤ n by omega)
      have hs := fun w => ssplit_ok K N m HK.out.1 HK.out.2 g3 (by omega) (by omega) w
      have hr := fun w => rsplit_ok K N m HK.out.1 HK.out.2 g3 (by omega) (by omega) w
      have hm : m ≤ 1000 := by omega
      have HG := Lib.hid g3
      clear hbig g1 g2 g3 h1 h2
      go_enter Try.func3, Try.ntmps3
      go_wp2_with fail
      refine hal.mono ?_
      rintro e w1 ⟨rfl, hb⟩
      replace bW := bW.trans (hb.mono bW.size)
      have r0 := (o0.below hb).rg
      go_wp2_with (refine ld t23 rfl rfl rfl r0 HK.out.2 ?_)
      refine (hs _).mono ?_
      rintro e w2 ⟨⟨A, c, rfl, s1, hc1⟩, hb2⟩
      replace bW := bW.trans (hb2.mono bW.size)
      replace r0 := r0.below hb2
      go_wp2_with (refine ld t23 rfl rfl rfl r0 HK.out.2 ?_)
      refine (hr _).mono ?_
      rintro e w3 ⟨⟨A', c', rfl, s2, hc2⟩, hb3⟩
      replace bW := bW.trans (hb3.mono bW.size)
      replace s1 := s1.below hb3
      have hsm := same_any A A' m m c c' _ _ w3 s1 s2 (by omega) (by omega)
      rw [decide_eq_true rfl] at hsm
      clear hs hr hal r0 o0 hb hb2 hb3
      go_wp2_with fail
      refine hsm.mono ?_
      rintro e w4 ⟨rfl, hd⟩
      go_wp2_with fail
      go_ret
      exact ⟨rfl, below_dr bW hd⟩
    · have hbad : n < 3 ∨ 255 < n ∨ N.size ≠ 64 := by omega
      have hs := fun w => ssplit_bad K N n hN0 hbad w
      have hr := fun w => rsplit_bad K N n hN0 hbad w
      clear hbig hgood hbad h1 h2
      go_enter Try.func3, Try.ntmps3
      go_wp2_with fail
      refine hal.mono ?_
      rintro e w1 ⟨rfl, hb⟩
      replace bW := bW.trans (hb.mono bW.size)
      have r0 := (o0.below hb).rg
      go_wp2_with (refine ld t23 rfl rfl rfl r0 HK.out.2 ?_)
      refine (hs _).mono ?_
      rintro e w2 ⟨rfl, hb2⟩
      replace bW := bW.trans (hb2.mono bW.size)
      replace r0 := r0.below hb2
      go_wp2_with (refine ld t23 rfl rfl rfl r0 HK.out.2 ?_)
      refine (hr _).mono ?_
      rintro e w3 ⟨rfl, hb3⟩
      replace bW := bW.trans (hb3.mono bW.size)
      have hsm := same_any none none 0 0 0 0 [] [] w3 ⟨rfl, fun s hs => (nomatch hs), fun h => absurd h (by omega)⟩ ⟨rfl, fun s hs => (nomatch hs), fun h => absurd h (by omega)⟩ (by omega) (by omega)
      rw [decide_eq_true rfl] at hsm
      clear hs hr hal r0 o0 hb hb2 hb3
      go_wp2_with fail
      refine hsm.mono ?_
      rintro e w4 ⟨rfl, hd⟩
      go_wp2_with fail
      go_ret
      exact ⟨rfl, below_dr bW hd⟩

set_option maxRecDepth 100000 in
theorem lifted (os : Os) (started : os.Started) (H : Type) (enc : TypeId × Value → H) :
    ReturnsInHanded {} Try.checked os 3 .any (Rows.shareSplitsSpec.pre6 enc Try.prog Try.f3 Rows.shareSplitsRow.domain false) (Rows.shareSplitsSpec.post enc Try.prog Try.f3 false true false false) := by
  refine returnsInHanded_of_change (C := Try.checked) own started (by kernel_rfl) Try.func3
    (ChangeSpec.witness6 (enc := enc) (C := Try.checked) false ⟨#[], #[.agg (Array.replicate 32 (.int .u8 0)), .int .i64 0, .string ByteArray.empty], []⟩ 8 (by kernel_rfl) (by kernel_rfl) (by kernel_rfl) (by kernel_rfl)) ?_
  intro W base args ds gs before hval0 hW hcnd _
  have hval : ∀ (j : Nat) t v, Try.f3.params[j]? = some t → args[j]? = some v → Value.okWide Try.prog W .any base t v := hval0
  have hW' := hW
  obtain ⟨p, q, hA0, hV, rfl, hfz, hnd⟩ := hW
  have hA : DataW.TrodAll enc Try.prog W 0 (fun _ => true) true Try.f3.params.toList args.toList ds p := hA0
  rw [Try.params3] at hA hval
  obtain ⟨v0, vs0, d0, ds0, p0, q0, hargs, rfl, rfl, h0, r0⟩ := trodAll_cons hA
  obtain ⟨v1, vs1, d1, ds1, p1, q1, rfl, rfl, rfl, h1, r1⟩ := trodAll_cons r0
  obtain ⟨v2, vs2, d2, ds2, p2, q2, rfl, rfl, rfl, h2, r2⟩ := trodAll_cons r1
  obtain ⟨rfl, rfl, rfl⟩ := trodAll_nil r2
  obtain rfl : args = #[v0, v1, v2] := by cases args; simp_all
  obtain ⟨rfl, rfl⟩ := trodVars_none hV
  obtain ⟨K0, rfl, l0, b0⟩ := okKey (hval 0 23 v0 rfl rfl)
  have k0 := h0
  have lt0 : ∀ x ∈ p0, x.block < W.heap.size := by obtain ⟨m, hm⟩ := k0; exact DataW.trod_lt m _ _ _ hm
  obtain ⟨n1, rfl, rfl, rfl, w1⟩ := open_int Try.underlying3 (hval 1 3 v1 rfl rfl) h1
  obtain ⟨a2, rfl, rfl, rfl, w2⟩ := open_string Try.underlying9 (hval 2 9 v2 rfl rfl) h2
  clear hA0 hval0
  refine (walk K0 n1 a2 b0 l0 (wf_i64' w1) w2 W).mono fun e W' ⟨he, bel⟩ => ?_
  subst he
  exact ⟨_, rfl, _, _, _, [], _, [], hW', trodAll_mk1 (shut_bool Try.underlying4 _), (trodAll_cons_mk (Below.trod laidOut (by kernel_rfl) (of_decide_eq_true (by kernel_rfl)) k0 bel lt0) (trodAll_cons_mk (shut_int Try.underlying3 w1) (trodAll_cons_mk (shut_string Try.underlying9 w2) trodAll_mk0))), rfl, bel.frame _, fun h => by cases h⟩

theorem over : Rows.shareSplitsRow.holds Try.pinned (OpenSpec.ofChange Rows.shareSplitsSpec) :=
  OpenClaim.holds_of_wide 3 Try.f3 rfl rfl rfl rfl rfl rfl rfl ⟨rfl, rfl, rfl, rfl, rfl⟩ rfl rfl rfl rfl rfl (by kernel_rfl) Try.func3 (by kernel_rfl)
    (of_decide_eq_true (by kernel_rfl)) (by unfold Func.isWrapper; first | (rw [if_pos (by decide +kernel)]; kernel_rfl) | (rw [if_neg (by decide +kernel)]; exact ⟨rfl, rfl⟩))
    (fun os started H enc _ => lifted os started H enc)

/-- the statement -/
theorem proved : Rows.ShareSplitsSaid := over
end Go.Proofs.Ytmnenjgipkopdaa.shareSplits
