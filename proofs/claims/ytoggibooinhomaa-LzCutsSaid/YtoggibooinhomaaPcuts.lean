/-
  For every text and every number the law LzCuts of package lz returns true: packed bytes that are cut short are told to be short, or stand for the front; there is no condition; the arguments read as before.
-/
import Derived.Test.YtoggibooinhomaaRows
import Derived.WalkKit
import Derived.ProofKit
import Derived.OpenShut
import Derived.ShutString
import Derived.Test.YtoggibooinhomaaLv
import Derived.Test.YtoggibooinhomaaOk
namespace Go.Proofs.Ytoggibooinhomaa.lzCuts
open Go.ChangeShapes Go.WideShapes Go.ChangeAt Go.RowKit
open Go.ChangeMaps (open_string shut_string)
set_option linter.unusedVariables false
set_option linter.unusedSimpArgs false

theorem own : ownKnob Try.prog.godebug = none := by kernel_rfl
set_option maxRecDepth 100000 in
set_option maxHeartbeats 2000000 in
theorem walk (s : ByteArray) (k : Nat) (w0 : s.size ≤ 9223372036854775807) (w1 : k < 65536) (w : World) :
    Calls Try.prog 7 #[.string s, .int .u16 k] w fun e w' => e = .returned (.bool true) ∧ Below w.heap.size w w' := by
  by_cases h1 : 1000 < s.size
  · go_enter Try.func7, Try.ntmps7
    go_wp2_with fail
    refine (alive_any _).mono ?_
    rintro e w1 ⟨rfl, hb⟩
    go_wp2_with fail
    go_ret
    exact ⟨rfl, hb⟩
  · have hp := fun w => pack_any s w (by omega)
    obtain ⟨n, hn⟩ : ∃ n, n = k % ((ofL (Lz.pack (toL s))).size + 1) := ⟨_, rfl⟩
    have hlt : n ≤ (ofL (Lz.pack (toL s))).size := by
      have := Nat.mod_lt k (show 0 < (ofL (Lz.pack (toL s))).size + 1 by omega)
      omega
    have hcut := un_cut s n w (by omega) hlt
    have hz := pk_size s
    generalize ofL (Lz.pack (toL s)) = x at *
    have hx : x.size ≤ 2000 := by omega
    have en : (k : Int) % ((x.size : Int) + 1) = (n : Int) := by rw [hn]; rfl
    have l1 : (n : Int) ≤ (x.size : Int) := by omega
    have n1 : n ≤ 2000 := by omega
    clear hn hz
    rcases hcut with ⟨hu, hl⟩ | ⟨m, m1, m2, hu⟩
    · clear hl
      go_enter Try.func7, Try.ntmps7
      go_wp2_with fail
      refine (hp _).mono ?_
      rintro e w1 ⟨rfl, hb1⟩
      go_wp2_with fail
      refine (hu _).mono ?_
      rintro e w2 ⟨rfl, hb2⟩
      go_wp2_with fail
      refine (alive_any _).mono ?_
      rintro e w4 ⟨rfl, hb4⟩
      go_wp2_with fail
      go_ret
      have z2 := hb1.trans (hb2.mono hb1.size)
      exact ⟨rfl, z2.trans (hb4.mono z2.size)⟩
    · have zm : (s.extract 0 m).size = m := by rw [ByteArray.size_extract]; omega
      by_cases h2 : n < x.size
      · clear m2
        have d1 : (n : Int) < (x.size : Int) := by omega
        go_enter Try.func7, Try.ntmps7
        go_wp2_with fail
        refine (hp _).mono ?_
        rintro e w1 ⟨rfl, hb1⟩
        go_wp2_with fail
        refine (hu _).mono ?_
        rintro e w2 ⟨rfl, hb2⟩
        go_wp2_with fail
        refine (alive_any _).mono ?_
        rintro e w4 ⟨rfl, hb4⟩
        go_wp2_with fail
        go_ret
        have z2 := hb1.trans (hb2.mono hb1.size)
        exact ⟨rfl, z2.trans (hb4.mono z2.size)⟩
      · have hm : m = s.size := by
          rcases m2 with m2 | m2
          · exact absurd m2 h2
          · exact m2
        subst hm
        have es : s.extract 0 s.size = s := by simp
        rw [es] at hu zm
        clear m2 zm
        have d1 : decide ((n : Int) < (x.size : Int)) = false := by rw [decide_eq_false_iff_not]; omega
        go_enter Try.func7, Try.ntmps7
        go_wp2_with fail
        refine (hp _).mono ?_
        rintro e w1 ⟨rfl, hb1⟩
        go_wp2_with fail
        refine (hu _).mono ?_
        rintro e w2 ⟨rfl, hb2⟩
        go_wp2_with fail
        refine (alive_any _).mono ?_
        rintro e w4 ⟨rfl, hb4⟩
        go_wp2_with fail
        go_ret
        have z2 := hb1.trans (hb2.mono hb1.size)
        exact ⟨rfl, z2.trans (hb4.mono z2.size)⟩

set_option maxRecDepth 100000 in
theorem lifted (os : Os) (started : os.Started) (H : Type) (enc : TypeId × Value → H) :
    ReturnsInHanded {} Try.checked os 7 .any (Rows.lzCutsSpec.pre6 enc Try.prog Try.f7 Rows.lzCutsRow.domain false) (Rows.lzCutsSpec.post enc Try.prog Try.f7 false true false false) := by
  refine returnsInHanded_of_change (C := Try.checked) own started (by kernel_rfl) Try.func7
    (ChangeSpec.witness6 (enc := enc) (C := Try.checked) false ⟨#[], #[.string ByteArray.empty, .int .u16 0], []⟩ 8 (by kernel_rfl) (by kernel_rfl) (by kernel_rfl) (by kernel_rfl)) ?_
  intro W base args ds gs before hval0 hW hcnd _
  have hval : ∀ (j : Nat) t v, Try.f7.params[j]? = some t → args[j]? = some v → Value.okWide Try.prog W .any base t v := hval0
  have hW' := hW
  obtain ⟨p, q, hA0, hV, rfl, hfz, hnd⟩ := hW
  have hA : DataW.TrodAll enc Try.prog W 0 (fun _ => true) true Try.f7.params.toList args.toList ds p := hA0
  rw [Try.params7] at hA hval
  obtain ⟨v0, vs0, d0, ds0, p0, q0, hargs, rfl, rfl, h0, r0⟩ := trodAll_cons hA
  obtain ⟨v1, vs1, d1, ds1, p1, q1, rfl, rfl, rfl, h1, r1⟩ := trodAll_cons r0
  obtain ⟨rfl, rfl, rfl⟩ := trodAll_nil r1
  obtain rfl : args = #[v0, v1] := by cases args; simp_all
  obtain ⟨rfl, rfl⟩ := trodVars_none hV
  obtain ⟨a0, rfl, rfl, rfl, w0⟩ := open_string Try.underlying9 (hval 0 9 v0 rfl rfl) h0
  obtain ⟨n1, rfl, rfl, rfl, w1⟩ := open_int Try.underlying30 (hval 1 30 v1 rfl rfl) h1
  obtain ⟨m1, rfl, z1⟩ := nat_u16 w1
  clear hA0 hval0
  refine (walk a0 m1 (by unfold maxLen at w0; exact w0) z1 W).mono fun e W' ⟨he, bel⟩ => ?_
  subst he
  exact ⟨_, rfl, _, _, _, [], _, [], hW', trodAll_mk1 (shut_bool Try.underlying4 _), (trodAll_cons_mk (shut_string Try.underlying9 w0) (trodAll_cons_mk (shut_int Try.underlying30 w1) trodAll_mk0)), rfl, bel.frame _, fun h => by cases h⟩

theorem over : Rows.lzCutsRow.holds Try.pinned (OpenSpec.ofChange Rows.lzCutsSpec) :=
  OpenClaim.holds_of_wide 7 Try.f7 rfl rfl rfl rfl rfl rfl rfl ⟨rfl, rfl, rfl, rfl, rfl⟩ rfl rfl rfl rfl rfl (by kernel_rfl) Try.func7 (by kernel_rfl)
    (of_decide_eq_true (by kernel_rfl)) (by unfold Func.isWrapper; first | (rw [if_pos (by decide +kernel)]; kernel_rfl) | (rw [if_neg (by decide +kernel)]; exact ⟨rfl, rfl⟩))
    (fun os started H enc _ => lifted os started H enc)

/-- the statement -/
theorem proved : Rows.LzCutsSaid := over
end Go.Proofs.Ytoggibooinhomaa.lzCuts
