/-
  For every data and cuts RollWhole answers true: nothing is lost, and the chunks have their sizes; the arguments read as before.
-/
import Derived.Test.YtingpadjciohjaaRows
import Derived.Test.YtingpadjciohjaaOk
import Derived.WalkKit
import Derived.ProofKit
import Derived.OpenShut
import Derived.ShutString
import Derived.RegionTactic
import Derived.BigRegion
import Derived.BigQuiet
import Derived.Deep.RegionHeld3
import Derived.Test.YtingpadjciohjaaJn
namespace Go.Proofs.Ytingpadjciohjaa.rollWhole
open Go.ChangeShapes Go.WideShapes Go.ChangeAt Go.RowKit
open Go.ChangeMaps (open_string shut_string)
open _root_.Go.Proofs.Ytingpadjciohjaa.Nm
set_option linter.unusedVariables false
set_option linter.unusedSimpArgs false

theorem own : ownKnob Try.prog.godebug = none := by kernel_rfl
set_option maxRecDepth 100000 in
set_option maxHeartbeats 4000000 in
theorem walk (D : ByteArray) (w lo hi : Int) (m : Nat) (hD : D.size ≤ maxLen) (hm : m < 4294967296) (W : World) :
    Calls Try.prog 4 #[.string D, .agg (cc w lo hi m)] W fun e w' => e = .returned (.bool true) ∧ Below W.heap.size W w' := by
  unfold maxLen at hD
  have st := at_new W w lo hi m 24
  have bW := grow W (Obj.cells (cc w lo hi m) 24)
  by_cases hbig : 5000 < D.size
  · have d0 : 5000 < (D.size : Int) := by omega
    go_enter Try.func4, Try.ntmps4
    go_wp2_with fail
    refine (alive_any _).mono ?_
    rintro e w1 ⟨rfl, hb⟩
    replace st := st.below hb
    replace bW := bW.trans (hb.mono bW.size)
    clear hb
    obtain ⟨k0, k1, k2, k3⟩ := id st
    go_wp2_with fail
    go_ret
    exact ⟨rfl, bW⟩
  · have d0 : decide (5000 < (D.size : Int)) = false := by rw [decide_eq_false_iff_not]; omega
    have h1 := fun wr => cutI_any D w lo hi m hm (by omega) wr
    have h3 := fun wr => check_any w lo hi m wr
    have hLen := li_len D w lo hi m
    unfold CutP at h1
    clear hbig
    by_cases hf : fitI w lo hi
    · rw [chk_yes hf] at h1
      have HF := Lib.hid hf
      have HL : Hid (LI D w lo hi m = Ro.cut ⟨w.toNat, lo.toNat, hi.toNat, m⟩ (toL D)) := Lib.hid (by unfold LI; rw [if_pos hf])
      have hi1 : hi ≤ 65536 := hf.2.2.2.2
      have lo1 : 1 ≤ lo := by have := hf.1; have := hf.2.2.1; omega
      have lo2 : lo ≤ hi := hf.2.2.2.1
      clear hf h3
      go_enter Try.func4, Try.ntmps4
      go_wp2_with fail
      refine (alive_any _).mono ?_
      rintro e w1 ⟨rfl, hb⟩
      replace st := st.below hb
      replace bW := bW.trans (hb.mono bW.size)
      clear hb
      obtain ⟨k0, k1, k2, k3⟩ := id st
      go_wp2_with fail
      refine (h1 _).mono ?_
      rintro e w2 ⟨A, cap, l, rfl, hts, hl, hb, hcp⟩
      replace st := st.below hb
      replace bW := bW.trans (hb.mono bW.size)
      clear hb k0 k1 k2 k3 h1
      obtain ⟨k0, k1, k2, k3⟩ := id st
      have ll : l.length ≤ 5000 := by rw [← List.length_map (f := toL), hl]; rw [decide_eq_false_iff_not] at d0; omega
      have hsz : ∀ k, k < l.length → 1 ≤ (nth l k).size ∧ (((nth l k).size : Nat) : Int) ≤ hi ∧ (k + 1 < l.length → lo ≤ (((nth l k).size : Nat) : Int)) := fun k hk => by
        obtain ⟨hfit, f1, f2, f3⟩ := fit_nat HF.out m
        have hs := Ro.cut_sizes _ hfit _ (toL D) rfl k
        rw [← HL.out, ← hl] at hs
        have hs := hs (by simpa using hk)
        rw [List.getElem_map, toL_length] at hs
        rw [nth_eq hk]
        obtain ⟨q1, q2, q3⟩ := hs
        exact ⟨q1, by simp only at q2; omega, fun h => by have := q3 (by rw [List.length_map]; exact h); simp only at this; omega⟩
      have hglue : glue l = D := toL_inj (by
        rw [glue_toL, hl, HL.out]
        exact Ro.cut_join _ (fit_nat HF.out m).1 _ (toL D) rfl)
      have hj := join_any A cap l w2 hts (by omega) hcp (by
        rw [← glue_toL, hglue, toL_length]; rw [decide_eq_false_iff_not] at d0; omega)
      rw [hglue] at hj
      have HS := Lib.hid hsz
      have HT := Lib.hid hts
      clear hsz hts hl hLen hglue
      go_wp2_with fail
      generalize hn : l.length = n at *
      have HN := Lib.hid hn
      clear hn
      go_loop [33] (fun i => ∃ k : Nat, k ≤ n ∧ i = .int .i64 k) (fun i => n - (intOf i).toNat)
      case atStart => exact ⟨0, Nat.zero_le _, rfl⟩
      case round =>
        obtain ⟨k, hk, rfl⟩ := hrel
        by_cases hlt : k < n
        · obtain ⟨b, off, rfl, hc⟩ := HT.out.2 (by omega)
          have c1 := hc k hlt
          have l0 : (k : Int) < (n : Int) := by omega
          obtain ⟨s1, s2, s3⟩ := HS.out k hlt
          generalize nth l k = x at *
          have s1' : 1 ≤ (x.size : Int) := by omega
          clear hc s1
          by_cases hl1 : k + 1 < n
          · have s4 := s3 hl1
            clear s3
            go_wp2_with fail
            go_round
            case rel => exact ⟨k + 1, by omega, by go_num⟩
            case measure => simp [intOf]; omega
          · have s4 : decide ((k : Int) < (n : Int) - 1) = false := by rw [decide_eq_false_iff_not]; omega
            clear s3
            by_cases hl2 : lo ≤ (x.size : Int)
            · go_wp2_with fail
              go_round
              case rel => exact ⟨k + 1, by omega, by go_num⟩
              case measure => simp [intOf]; omega
            · have s5 : (x.size : Int) < lo := by omega
              go_wp2_with fail
              go_round
              case rel => exact ⟨k + 1, by omega, by go_num⟩
              case measure => simp [intOf]; omega
        · obtain rfl : n = k := by omega
          go_wp2_with fail
          refine hj.mono ?_
          rintro e w3 ⟨rfl, hb⟩
          replace bW := bW.trans (hb.mono bW.size)
          go_wp2_with fail
          go_ret
          exact ⟨rfl, bW⟩
    · rw [chk_no hf] at h1 h3
      have hL : LI D w lo hi m = [] := by unfold LI; rw [if_neg hf]
      rw [hL] at h1
      clear hf hL hLen
      go_enter Try.func4, Try.ntmps4
      go_wp2_with fail
      refine (alive_any _).mono ?_
      rintro e w1 ⟨rfl, hb⟩
      replace st := st.below hb
      replace bW := bW.trans (hb.mono bW.size)
      clear hb
      obtain ⟨k0, k1, k2, k3⟩ := id st
      go_wp2_with fail
      refine (h1 _).mono ?_
      rintro e w2 ⟨A, cap, l, rfl, hts, hl, hb, hcp⟩
      replace st := st.below hb
      replace bW := bW.trans (hb.mono bW.size)
      clear hb k0 k1 k2 k3 h1
      obtain ⟨k0, k1, k2, k3⟩ := id st
      obtain rfl : l = [] := by simpa using hl
      clear hl
      go_wp2_with fail
      refine (h3 _).mono ?_
      rintro e w3 ⟨rfl, hb⟩
      replace bW := bW.trans (hb.mono bW.size)
      go_wp2_with fail
      go_ret
      exact ⟨rfl, bW⟩

set_option maxRecDepth 100000 in
theorem lifted (os : Os) (started : os.Started) (H : Type) (enc : TypeId × Value → H) :
    ReturnsInHanded {} Try.checked os 4 .any (Rows.rollWholeSpec.pre6 enc Try.prog Try.f4 Rows.rollWholeRow.domain false) (Rows.rollWholeSpec.post enc Try.prog Try.f4 false true false false) := by
  refine returnsInHanded_of_change (C := Try.checked) own started (by kernel_rfl) Try.func4
    (ChangeSpec.witness6 (enc := enc) (C := Try.checked) false ⟨#[], #[.string ByteArray.empty, .agg #[.int .i64 0, .int .i64 0, .int .i64 0, .int .u32 0]], []⟩ 8 (by kernel_rfl) (by kernel_rfl) (by kernel_rfl) (by kernel_rfl)) ?_
  intro W base args ds gs before hval0 hW hcnd _
  have hval : ∀ (j : Nat) t v, Try.f4.params[j]? = some t → args[j]? = some v → Value.okWide Try.prog W .any base t v := hval0
  have hW' := hW
  obtain ⟨p, q, hA0, hV, rfl, hfz, hnd⟩ := hW
  have hA : DataW.TrodAll enc Try.prog W 0 (fun _ => true) true Try.f4.params.toList args.toList ds p := hA0
  rw [Try.params4] at hA hval
  obtain ⟨v0, vs0, d0, ds0, p0, q0, hargs, rfl, rfl, h0, r0⟩ := trodAll_cons hA
  obtain ⟨v1, vs1, d1, ds1, p1, q1, rfl, rfl, rfl, h1, r1⟩ := trodAll_cons r0
  obtain ⟨rfl, rfl, rfl⟩ := trodAll_nil r1
  obtain rfl : args = #[v0, v1] := by cases args; simp_all
  obtain ⟨rfl, rfl⟩ := trodVars_none hV
  obtain ⟨a0, rfl, rfl, rfl, w0⟩ := open_string Try.underlying9 (hval 0 9 v0 rfl rfl) h0
  obtain ⟨w1, lo1, hi1, m1, rfl, a1, b1, c1, z1⟩ := okCuts (hval 1 24 v1 rfl rfl)
  have k1 := h1
  have lt1 : ∀ x ∈ p1, x.block < W.heap.size := by obtain ⟨m, hm⟩ := k1; exact DataW.trod_lt m _ _ _ hm
  clear hA0 hval0
  refine (walk a0 w1 lo1 hi1 m1 w0 z1 W).mono fun e W' ⟨he, bel⟩ => ?_
  subst he
  exact ⟨_, rfl, _, _, _, [], _, [], hW', trodAll_mk1 (shut_bool Try.underlying4 _), (trodAll_cons_mk (shut_string Try.underlying9 w0) (trodAll_cons_mk (Below.trod laidOut (by kernel_rfl) (of_decide_eq_true (by kernel_rfl)) k1 bel lt1) trodAll_mk0)), rfl, bel.frame _, fun h => by cases h⟩

theorem over : Rows.rollWholeRow.holds Try.pinned (OpenSpec.ofChange Rows.rollWholeSpec) :=
  OpenClaim.holds_of_wide 4 Try.f4 rfl rfl rfl rfl rfl rfl rfl ⟨rfl, rfl, rfl, rfl, rfl⟩ rfl rfl rfl rfl rfl (by kernel_rfl) Try.func4 (by kernel_rfl)
    (of_decide_eq_true (by kernel_rfl)) (by unfold Func.isWrapper; first | (rw [if_pos (by decide +kernel)]; kernel_rfl) | (rw [if_neg (by decide +kernel)]; exact ⟨rfl, rfl⟩))
    (fun os started H enc _ => lifted os started H enc)

/-- the statement -/
theorem proved : Rows.RollWholeSaid := over
end Go.Proofs.Ytingpadjciohjaa.rollWhole
