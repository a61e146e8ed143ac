/-
  For every parts and size ParityJoins answers true: what they tell, or why they don't, is the document's; the arguments read as before.
-/
import Derived.Test.YtgfnpemonpebpaaRows
import Derived.Test.YtgfnpemonpebpaaOq
import Derived.WalkKit
import Derived.ProofKit
import Derived.OpenShut
import Derived.ShutString
import Derived.Test.YtgfnpemonpebpaaRq
namespace Go.Proofs.Ytgfnpemonpebpaa.parityJoins
open Go.ChangeShapes Go.WideShapes Go.ChangeAt Go.RowKit
open Go.ChangeMaps (open_string shut_string)
set_option linter.unusedVariables false
set_option linter.unusedSimpArgs false

theorem own : ownKnob Try.prog.godebug = none := by kernel_rfl
set_option maxRecDepth 100000 in
set_option maxHeartbeats 3000000 in
theorem walk (A : Option Addr) (m cap : Nat) (l : List (Int × ByteArray)) (size : Int) (W : World) (hl : Ps W A l ∧ l.length = m) (hmm : m ≤ maxLen) (hs : -9223372036854775808 ≤ size ∧ size ≤ 9223372036854775807) :
    Calls Try.prog 4 #[.slice A m cap, .int .i64 size] W fun e w' => e = .returned (.bool true) ∧ Below W.heap.size W w' := by
  have hf := fun w => fixed_any w
  by_cases hm : 12 < m
  · have d0 : 12 < (m : Int) := by omega
    go_enter Try.func4, Try.ntmps4
    go_wp2_with (go_at_call 9; refine (hf _).mono ?_; rintro e w1 ⟨rfl, hb⟩)
    go_ret
    exact ⟨rfl, hb⟩
  · have d0 : decide (12 < (m : Int)) = false := by simp; omega
    by_cases hz : 1800 < size ∧ size ≤ 65536
    · have z1 := hz.1
      have z2 := hz.2
      clear hz
      go_enter Try.func4, Try.ntmps4
      go_wp2_with (go_at_call 9; refine (hf _).mono ?_; rintro e w1 ⟨rfl, hb⟩)
      go_ret
      exact ⟨rfl, hb⟩
    · have hsz : size ≤ 1800 ∨ 65536 < size := by omega
      have hcj := fun w h => cjoin_any A m cap l size w hl.2 (by omega) h hs.1 hs.2
      have hrj := fun w h => rjoin_any A m cap l size w hl.2 (by omega) h hs.1 hs.2 hsz
      have HL := Lib.hid hl
      have hPs : ∀ w', Below W.heap.size W w' → Ps w' A l := fun w' hb h0 => by
        obtain ⟨b, o, e, p⟩ := hl.1 h0
        have hb' : b < W.heap.size := World.block_lt_of_cell? W _ (p 0 _ (List.getElem?_eq_getElem h0)).1
        exact ⟨b, o, e, p.belowB hb hb'⟩
      generalize joined l size = J at *
      clear hl
      rcases hsz with hq | hq
      all_goals
        clear hz
        go_enter Try.func4, Try.ntmps4
        go_wp2_with fail
        go_loopw [25] (fun i wr => ∃ k : Nat, k ≤ m ∧ i = .int .i64 (k : Int) ∧ Below W.heap.size W wr) (fun i _ => m - (intOf i).toNat)
        case atStart => exact ⟨0, by omega, rfl, Below.refl _ _⟩
        case round =>
          obtain ⟨k, hk, rfl, bW⟩ := hrel
          by_cases hkm : k < m
          · have k0 : (k : Int) < (m : Int) := by omega
            have ek : IntKind.i64.wrap ((k : Int) + 1) = (k : Int) + 1 := IntWalk.i64_in _ (by omega)
            have hlen := HL.out.2
            obtain ⟨b, o, rfl, hp⟩ := hPs wr bW (by omega)
            obtain ⟨p, hpk⟩ : ∃ p, l[k]? = some p := ⟨l[k]'(by omega), List.getElem?_eq_getElem _⟩
            obtain ⟨c1, c2⟩ := hp k p hpk
            obtain ⟨I, S⟩ := p
            simp only at c1 c2
            have kA : Below wr.heap.size wr (wr.alloc (Obj.cells #[.int .i64 I, .string S] 29)) := (Below.refl _ wr).alloc (Nat.le_refl _) _
            have bW2 := bW.trans (kA.mono bW.size)
            clear hp hpk hlen
            by_cases hS : 600 < S.size
            · have s0 : 600 < (S.size : Int) := by omega
              go_wp2_with (go_at_call 9; refine (hf _).mono ?_; rintro e w1 ⟨rfl, hb⟩)
              go_ret
              exact ⟨rfl, bW2.trans (hb.mono bW2.size)⟩
            · have s0 : decide (600 < (S.size : Int)) = false := by simp; omega
              go_wp2_with fail
              go_roundw
              case rel => exact ⟨k + 1, by omega, by go_num, bW2⟩
              case measure => first | (simp [intOf]; done) | (simp [intOf]; omega)
          · obtain rfl : k = m := by omega
            have t1 := beq_yes J.1
            go_wp2_with (first | (go_at_call 15; refine (hcj _ (hPs _ bW)).mono ?_; rintro e w1 ⟨rfl, hb1⟩; have bW1 := bW.trans (hb1.mono bW.size)) | (go_at_call 16; refine (hrj _ (hPs _ bW1)).mono ?_; rintro e w2 ⟨rfl, hb2⟩; have bW2 := bW1.trans (hb2.mono bW1.size)) | (go_at_call 9; refine (hf _).mono ?_; rintro e w3 ⟨rfl, hb3⟩))
            go_ret
            exact ⟨rfl, bW2.trans (hb3.mono bW2.size)⟩

set_option maxRecDepth 100000 in
theorem lifted (os : Os) (started : os.Started) (H : Type) (enc : TypeId × Value → H) :
    ReturnsInHanded {} Try.checked os 4 .any (Rows.parityJoinsSpec.pre6 enc Try.prog Try.f4 Rows.parityJoinsRow.domain false) (Rows.parityJoinsSpec.post enc Try.prog Try.f4 false true false false) := by
  refine returnsInHanded_of_change (C := Try.checked) own started (by kernel_rfl) Try.func4
    (ChangeSpec.witness6 (enc := enc) (C := Try.checked) false ⟨#[], #[.slice none 0 0, .int .i64 0], []⟩ 8 (by kernel_rfl) (by kernel_rfl) (by kernel_rfl) (by kernel_rfl)) ?_
  intro W base args ds gs before hval0 hW hcnd _
  have hval : ∀ (j : Nat) t v, Try.f4.params[j]? = some t → args[j]? = some v → Value.okWide Try.prog W .any base t v := hval0
  have hW' := hW
  obtain ⟨p, q, hA0, hV, rfl, hfz, hnd⟩ := hW
  have hA : DataW.TrodAll enc Try.prog W 0 (fun _ => true) true Try.f4.params.toList args.toList ds p := hA0
  rw [Try.params4] at hA hval
  obtain ⟨v0, vs0, d0, ds0, p0, q0, hargs, rfl, rfl, h0, r0⟩ := trodAll_cons hA
  obtain ⟨v1, vs1, d1, ds1, p1, q1, rfl, rfl, rfl, h1, r1⟩ := trodAll_cons r0
  obtain ⟨rfl, rfl, rfl⟩ := trodAll_nil r1
  obtain rfl : args = #[v0, v1] := by cases args; simp_all
  obtain ⟨rfl, rfl⟩ := trodVars_none hV
  have k0 := h0
  have lt0 : ∀ x ∈ p0, x.block < W.heap.size := by obtain ⟨m, hm⟩ := k0; exact DataW.trod_lt m _ _ _ hm
  obtain ⟨A0, c0, n0, xs0, rfl, pt0, lm0⟩ := okParts (hval 0 24 v0 rfl rfl) h0
  obtain ⟨n1, rfl, rfl, rfl, w1⟩ := open_int Try.underlying3 (hval 1 3 v1 rfl rfl) h1
  clear hA0 hval0
  refine (walk A0 n0 c0 xs0 n1 W pt0 lm0 (wf_i64' w1)).mono fun e W' ⟨he, bel⟩ => ?_
  subst he
  exact ⟨_, rfl, _, _, _, [], _, [], hW', trodAll_mk1 (shut_bool Try.underlying4 _), (trodAll_cons_mk (Below.trod laidOut (by kernel_rfl) (of_decide_eq_true (by kernel_rfl)) k0 bel lt0) (trodAll_cons_mk (shut_int Try.underlying3 w1) trodAll_mk0)), rfl, bel.frame _, fun h => by cases h⟩

theorem over : Rows.parityJoinsRow.holds Try.pinned (OpenSpec.ofChange Rows.parityJoinsSpec) :=
  OpenClaim.holds_of_wide 4 Try.f4 rfl rfl rfl rfl rfl rfl rfl ⟨rfl, rfl, rfl, rfl, rfl⟩ rfl rfl rfl rfl rfl (by kernel_rfl) Try.func4 (by kernel_rfl)
    (of_decide_eq_true (by kernel_rfl)) (by unfold Func.isWrapper; first | (rw [if_pos (by decide +kernel)]; kernel_rfl) | (rw [if_neg (by decide +kernel)]; exact ⟨rfl, rfl⟩))
    (fun os started H enc _ => lifted os started H enc)

/-- the statement -/
theorem proved : Rows.ParityJoinsSaid := over
end Go.Proofs.Ytgfnpemonpebpaa.parityJoins
