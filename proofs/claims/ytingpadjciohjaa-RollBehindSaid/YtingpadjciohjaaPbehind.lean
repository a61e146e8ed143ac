/-
  For every data, cuts and number RollBehind answers true: behind the end of any chunk all is cut as if the bytes began there; the arguments read as before.
-/
import Derived.Test.YtingpadjciohjaaRows
import Derived.Test.YtingpadjciohjaaOk
import Derived.WalkKit
import Derived.ProofKit
import Derived.OpenShut
import Derived.ShutString
import Derived.RegionTactic
import Derived.BigRegion
import Derived.BigQuiet
import Derived.Deep.RegionHeld3
import Derived.Test.YtingpadjciohjaaJn
namespace Go.Proofs.Ytingpadjciohjaa.rollBehind
open Go.ChangeShapes Go.WideShapes Go.ChangeAt Go.RowKit
open Go.ChangeMaps (open_string shut_string)
open _root_.Go.Proofs.Ytingpadjciohjaa.Nm
set_option linter.unusedVariables false
set_option linter.unusedSimpArgs false

theorem own : ownKnob Try.prog.godebug = none := by kernel_rfl
theorem glue_drop (D : ByteArray) (w lo hi : Int) (m : Nat) (hf : fitI w lo hi) (l : List ByteArray) (hl : l.map toL = LI D w lo hi m) (n : Nat) :
    (glue (l.drop n)).size ≤ D.size ∧ LI (glue (l.drop n)) w lo hi m = (l.drop n).map toL := by
  have hg : toL (glue (l.drop n)) = ((LI D w lo hi m).drop n).flatten := by rw [glue_toL, List.map_drop, hl]
  unfold LI at hg hl
  rw [if_pos hf] at hg hl
  constructor
  · rw [← toL_length, hg]
    have hj := Ro.cut_join _ (fit_nat hf m).1 _ (toL D) rfl
    have e : (toL D).length = D.size := toL_length D
    rw [← e]
    generalize Ro.cut ⟨w.toNat, lo.toNat, hi.toNat, m⟩ (toL D) = L at *
    rw [← hj]
    conv => rhs; rw [← List.take_append_drop n L]
    rw [List.flatten_append, List.length_append]
    omega
  · unfold LI
    rw [if_pos hf, hg, Ro.cut_drop _ (fit_nat hf m).1, List.map_drop, hl]
set_option maxRecDepth 100000 in
set_option maxHeartbeats 4000000 in
theorem walk (D : ByteArray) (w lo hi : Int) (m : Nat) (k : Nat) (hD : D.size ≤ maxLen) (hm : m < 4294967296) (hk : k < 256) (W : World) :
    Calls Try.prog 5 #[.string D, .agg (cc w lo hi m), .int .u8 k] W fun e w' => e = .returned (.bool true) ∧ Below W.heap.size W w' := by
  unfold maxLen at hD
  have st := at_new W w lo hi m 24
  have bW := grow W (Obj.cells (cc w lo hi m) 24)
  by_cases hbig : 5000 < D.size
  · have d0 : 5000 < (D.size : Int) := by omega
    go_enter Try.func5, Try.ntmps5
    go_wp2_with fail
    refine (alive_any _).mono ?_
    rintro e w1 ⟨rfl, hb⟩
    replace st := st.below hb
    replace bW := bW.trans (hb.mono bW.size)
    clear hb
    obtain ⟨k0, k1, k2, k3⟩ := id st
    go_wp2_with fail
    go_ret
    exact ⟨rfl, bW⟩
  · have d0 : decide (5000 < (D.size : Int)) = false := by rw [decide_eq_false_iff_not]; omega
    have h1 := fun wr => cutI_any D w lo hi m hm (by omega) wr
    have h3 := fun wr => check_any w lo hi m wr
    have hLen := li_len D w lo hi m
    unfold CutP at h1
    clear hbig
    by_cases hf : fitI w lo hi
    · rw [chk_yes hf] at h1
      have HL := fun l hl n => glue_drop D w lo hi m hf l hl n
      have hF := Lib.hid hf
      clear hf h3
      go_enter Try.func5, Try.ntmps5
      go_wp2_with fail
      refine (alive_any _).mono ?_
      rintro e w1 ⟨rfl, hb⟩
      replace st := st.below hb
      replace bW := bW.trans (hb.mono bW.size)
      clear hb
      obtain ⟨k0, k1, k2, k3⟩ := id st
      go_wp2_with fail
      refine (h1 _).mono ?_
      rintro e w2 ⟨A, cap, l, rfl, hts, hl, hb, hcp⟩
      replace st := st.below hb
      replace bW := bW.trans (hb.mono bW.size)
      clear hb k0 k1 k2 k3 h1
      obtain ⟨k0, k1, k2, k3⟩ := id st
      have ll : l.length ≤ 5000 := by rw [← List.length_map (f := toL), hl]; rw [decide_eq_false_iff_not] at d0; omega
      clear hLen
      by_cases hz : l.length = 0
      · have z0 : ((l.length : Int) == 0) = true := by rw [hz]; rfl
        clear HL hl
        go_wp2_with fail
        go_ret
        exact ⟨rfl, bW⟩
      · have z0 : ((l.length : Int) == 0) = false := by rw [beq_eq_false_iff_ne]; omega
        have z1 : (0 : Int) < (l.length : Int) := by omega
        obtain ⟨n, hn⟩ : ∃ n, n = k % l.length := ⟨_, rfl⟩
        have hn1 : n < l.length := by rw [hn]; exact Nat.mod_lt _ (by omega)
        have en : (k : Int).tmod (l.length : Int) = (n : Int) := by rw [hn]; rfl
        obtain ⟨hg1, hg2⟩ := HL l hl n
        have hd2 : ¬ (5000 < D.size) := by rw [decide_eq_false_iff_not] at d0; omega
        have hc := fun wr => cutI_any (glue (l.drop n)) w lo hi m hm (by omega) wr
        unfold CutP at hc
        rw [hg2, chk_yes hF.out] at hc
        obtain ⟨b, off, rfl, -⟩ := hts.2 (by omega)
        have htd := Ts.dropN hts n (by omega)
        have hdl : (l.drop n).length = l.length - n := List.length_drop
        have hj := fun wr ht => join_any (some ⟨b, off + n, none⟩) (cap - n) (l.drop n) wr ht (by omega) (by omega) (by rw [← glue_toL, toL_length]; omega)
        rw [hdl] at hj
        have n0 : (0 : Int) ≤ (n : Int) := by omega
        have n1 : (n : Int) ≤ (l.length : Int) := by omega
        have n2 : (l.length : Int) ≤ (cap : Int) := by omega
        have hcn : ¬ (cap = n) := by omega
        clear hl HL hg1 hg2 hn
        go_wp2_with fail
        refine wp_region_any (by kernel_rfl) ?_
        change wpAny _ _ _ _ _ _ _ (World.drew _)
        refine wpAny_take (i := 0) (v := ?_) rfl (by kernel_rfl) (by kernel_rfl) (by kernel_rfl) (fun _ _ _ h => h) (Or.inl ⟨by rfl, ?_⟩) ?_
        rotate_left
        · intro w; go_simp; try with_reducible rfl
        refine wpAny_take (i := 1) (v := ?_) rfl (by kernel_rfl) (by kernel_rfl) (by kernel_rfl) (fun _ _ _ h => h) (Or.inl ⟨by rfl, ?_⟩) ?_
        rotate_left
        · intro w; go_simp; try with_reducible rfl
        refine wpAny_take (i := 2) (v := ?_) rfl (by kernel_rfl) (by kernel_rfl) (by kernel_rfl) (fun _ _ _ h => h) (Or.inl ⟨by rfl, ?_⟩) ?_
        rotate_left
        · intro w; go_simp; try with_reducible rfl
        refine wpAny_ready (rs := [3, 4]) (by kernel_rfl) (by simp) ?_
        refine AllReady.cons rfl (fun K hK => ?_) (AllReady.cons rfl (fun K hK => ?_) AllReady.nil)
        · go_simp
          go_wp2_with (go_at_call 17; refine (hj _ (Ts.drew htd)).mono ?_; rintro e w3 ⟨rfl, hb3⟩; have st1 := (At.drew st).below hb3; obtain ⟨j0, j1, j2, j3⟩ := id st1; have htd1 := Ts.below (Ts.drew htd) hb3; have b1 := bW.drew.trans (hb3.mono bW.drew.size))
          refine wpAny_ready (rs := [4]) (by kernel_rfl) (by simp) ?_
          refine AllReady.cons rfl (fun K hK => ?_) AllReady.nil
          go_simp
          refine hK _ _ ?_
          clear hK K
          refine wpAny_ready (rs := [5]) (by kernel_rfl) (by simp) ?_
          refine AllReady.cons rfl (fun K hK => ?_) AllReady.nil
          go_simp
          go_wp2_with (go_at_call 10; refine (hc _).mono ?_; rintro e w4 ⟨A1, cap1, l1, rfl, hts1, hl1, hb4, hcp1⟩; have htd2 := Ts.below htd1 hb4; have b2 := b1.trans (hb4.mono b1.size))
          refine wpAny_take (i := 6) (v := ?_) rfl (by kernel_rfl) (by kernel_rfl) (by kernel_rfl) (fun _ _ _ h => h) (Or.inl ⟨by rfl, ?_⟩) ?_
          rotate_left
          · intro w; go_simp; try with_reducible rfl
          refine wpAny_take (i := 7) (v := ?_) rfl (by kernel_rfl) (by kernel_rfl) (by kernel_rfl) (fun _ _ _ h => h) (Or.inl ⟨by rfl, ?_⟩) ?_
          rotate_left
          · intro w; go_simp; try with_reducible rfl
          refine wpAny_take (i := 8) (v := ?_) rfl (by kernel_rfl) (by kernel_rfl) (by kernel_rfl) (fun _ _ _ h => h) (Or.inl ⟨by rfl, ?_⟩) ?_
          rotate_left
          · intro w; go_simp; try with_reducible rfl
          refine wpAny_take (i := 9) (v := ?_) rfl (by kernel_rfl) (by kernel_rfl) (by kernel_rfl) (fun _ _ _ h => h) (Or.inl ⟨by rfl, ?_⟩) ?_
          rotate_left
          · intro w; go_simp; try with_reducible rfl
          refine wpAny_take (i := 10) (v := ?_) rfl (by kernel_rfl) (by kernel_rfl) (by kernel_rfl) (fun _ _ _ h => h) (Or.inl ⟨by rfl, ?_⟩) ?_
          rotate_left
          · intro w; go_simp; try with_reducible rfl
          refine wpAny_done (by kernel_rfl) ?_ _
          obtain rfl : l1 = l.drop n := map_toL_inj hl1
          rw [hdl] at hts1
          have hs := same_any A1 (some ⟨b, off + n, none⟩) (l.length - n) cap1 (l.length - n) (cap - n) (l.drop n) (l.drop n) w4 hts1 htd2 (by omega) (by omega)
          rw [decide_eq_true rfl] at hs
          clear hl1 hj hc j0 j1 j2 j3 k0 k1 k2 k3
          go_wp2_with fail
          refine hs.mono ?_
          rintro e w5 ⟨rfl, hd⟩
          replace b2 := below_dr b2 hd
          go_wp2_with fail
          go_ret
          exact ⟨rfl, b2⟩
        · go_simp
          refine hK _ _ ?_
          clear hK K
          refine wpAny_ready (rs := [3]) (by kernel_rfl) (by simp) ?_
          refine AllReady.cons rfl (fun K hK => ?_) AllReady.nil
          go_simp
          go_wp2_with (go_at_call 17; refine (hj _ (Ts.drew htd)).mono ?_; rintro e w3 ⟨rfl, hb3⟩; have st1 := (At.drew st).below hb3; obtain ⟨j0, j1, j2, j3⟩ := id st1; have htd1 := Ts.below (Ts.drew htd) hb3; have b1 := bW.drew.trans (hb3.mono bW.drew.size))
          refine wpAny_ready (rs := [5]) (by kernel_rfl) (by simp) ?_
          refine AllReady.cons rfl (fun K hK => ?_) AllReady.nil
          go_simp
          go_wp2_with (go_at_call 10; refine (hc _).mono ?_; rintro e w4 ⟨A1, cap1, l1, rfl, hts1, hl1, hb4, hcp1⟩; have htd2 := Ts.below htd1 hb4; have b2 := b1.trans (hb4.mono b1.size))
          refine wpAny_take (i := 6) (v := ?_) rfl (by kernel_rfl) (by kernel_rfl) (by kernel_rfl) (fun _ _ _ h => h) (Or.inl ⟨by rfl, ?_⟩) ?_
          rotate_left
          · intro w; go_simp; try with_reducible rfl
          refine wpAny_take (i := 7) (v := ?_) rfl (by kernel_rfl) (by kernel_rfl) (by kernel_rfl) (fun _ _ _ h => h) (Or.inl ⟨by rfl, ?_⟩) ?_
          rotate_left
          · intro w; go_simp; try with_reducible rfl
          refine wpAny_take (i := 8) (v := ?_) rfl (by kernel_rfl) (by kernel_rfl) (by kernel_rfl) (fun _ _ _ h => h) (Or.inl ⟨by rfl, ?_⟩) ?_
          rotate_left
          · intro w; go_simp; try with_reducible rfl
          refine wpAny_take (i := 9) (v := ?_) rfl (by kernel_rfl) (by kernel_rfl) (by kernel_rfl) (fun _ _ _ h => h) (Or.inl ⟨by rfl, ?_⟩) ?_
          rotate_left
          · intro w; go_simp; try with_reducible rfl
          refine wpAny_take (i := 10) (v := ?_) rfl (by kernel_rfl) (by kernel_rfl) (by kernel_rfl) (fun _ _ _ h => h) (Or.inl ⟨by rfl, ?_⟩) ?_
          rotate_left
          · intro w; go_simp; try with_reducible rfl
          refine wpAny_done (by kernel_rfl) ?_ _
          obtain rfl : l1 = l.drop n := map_toL_inj hl1
          rw [hdl] at hts1
          have hs := same_any A1 (some ⟨b, off + n, none⟩) (l.length - n) cap1 (l.length - n) (cap - n) (l.drop n) (l.drop n) w4 hts1 htd2 (by omega) (by omega)
          rw [decide_eq_true rfl] at hs
          clear hl1 hj hc j0 j1 j2 j3 k0 k1 k2 k3
          go_wp2_with fail
          refine hs.mono ?_
          rintro e w5 ⟨rfl, hd⟩
          replace b2 := below_dr b2 hd
          go_wp2_with fail
          go_ret
          exact ⟨rfl, b2⟩
    · rw [chk_no hf] at h1
      clear hf hLen h3
      go_enter Try.func5, Try.ntmps5
      go_wp2_with fail
      refine (alive_any _).mono ?_
      rintro e w1 ⟨rfl, hb⟩
      replace st := st.below hb
      replace bW := bW.trans (hb.mono bW.size)
      clear hb
      obtain ⟨k0, k1, k2, k3⟩ := id st
      go_wp2_with fail
      refine (h1 _).mono ?_
      rintro e w2 ⟨A, cap, l, rfl, hts, hl, hb, hcp⟩
      replace st := st.below hb
      replace bW := bW.trans (hb.mono bW.size)
      clear hb k0 k1 k2 k3 h1
      obtain ⟨k0, k1, k2, k3⟩ := id st
      clear hl
      go_wp2_with fail
      go_ret
      exact ⟨rfl, bW⟩

set_option maxRecDepth 100000 in
theorem lifted (os : Os) (started : os.Started) (H : Type) (enc : TypeId × Value → H) :
    ReturnsInHanded {} Try.checked os 5 .any (Rows.rollBehindSpec.pre6 enc Try.prog Try.f5 Rows.rollBehindRow.domain false) (Rows.rollBehindSpec.post enc Try.prog Try.f5 false true false false) := by
  refine returnsInHanded_of_change (C := Try.checked) own started (by kernel_rfl) Try.func5
    (ChangeSpec.witness6 (enc := enc) (C := Try.checked) false ⟨#[], #[.string ByteArray.empty, .agg #[.int .i64 0, .int .i64 0, .int .i64 0, .int .u32 0], .int .u8 0], []⟩ 8 (by kernel_rfl) (by kernel_rfl) (by kernel_rfl) (by kernel_rfl)) ?_
  intro W base args ds gs before hval0 hW hcnd _
  have hval : ∀ (j : Nat) t v, Try.f5.params[j]? = some t → args[j]? = some v → Value.okWide Try.prog W .any base t v := hval0
  have hW' := hW
  obtain ⟨p, q, hA0, hV, rfl, hfz, hnd⟩ := hW
  have hA : DataW.TrodAll enc Try.prog W 0 (fun _ => true) true Try.f5.params.toList args.toList ds p := hA0
  rw [Try.params5] at hA hval
  obtain ⟨v0, vs0, d0, ds0, p0, q0, hargs, rfl, rfl, h0, r0⟩ := trodAll_cons hA
  obtain ⟨v1, vs1, d1, ds1, p1, q1, rfl, rfl, rfl, h1, r1⟩ := trodAll_cons r0
  obtain ⟨v2, vs2, d2, ds2, p2, q2, rfl, rfl, rfl, h2, r2⟩ := trodAll_cons r1
  obtain ⟨rfl, rfl, rfl⟩ := trodAll_nil r2
  obtain rfl : args = #[v0, v1, v2] := by cases args; simp_all
  obtain ⟨rfl, rfl⟩ := trodVars_none hV
  obtain ⟨a0, rfl, rfl, rfl, w0⟩ := open_string Try.underlying9 (hval 0 9 v0 rfl rfl) h0
  obtain ⟨w1, lo1, hi1, m1, rfl, a1, b1, c1, z1⟩ := okCuts (hval 1 24 v1 rfl rfl)
  have k1 := h1
  have lt1 : ∀ x ∈ p1, x.block < W.heap.size := by obtain ⟨m, hm⟩ := k1; exact DataW.trod_lt m _ _ _ hm
  obtain ⟨n2, rfl, rfl, rfl, w2⟩ := open_int Try.underlying5 (hval 2 5 v2 rfl rfl) h2
  obtain ⟨m2, rfl, z2⟩ := nat_u8 w2
  clear hA0 hval0
  refine (walk a0 w1 lo1 hi1 m1 m2 w0 z1 z2 W).mono fun e W' ⟨he, bel⟩ => ?_
  subst he
  exact ⟨_, rfl, _, _, _, [], _, [], hW', trodAll_mk1 (shut_bool Try.underlying4 _), (trodAll_cons_mk (shut_string Try.underlying9 w0) (trodAll_cons_mk (Below.trod laidOut (by kernel_rfl) (of_decide_eq_true (by kernel_rfl)) k1 bel lt1) (trodAll_cons_mk (shut_int Try.underlying5 w2) trodAll_mk0))), rfl, bel.frame _, fun h => by cases h⟩

theorem over : Rows.rollBehindRow.holds Try.pinned (OpenSpec.ofChange Rows.rollBehindSpec) :=
  OpenClaim.holds_of_wide 5 Try.f5 rfl rfl rfl rfl rfl rfl rfl ⟨rfl, rfl, rfl, rfl, rfl⟩ rfl rfl rfl rfl rfl (by kernel_rfl) Try.func5 (by kernel_rfl)
    (of_decide_eq_true (by kernel_rfl)) (by unfold Func.isWrapper; first | (rw [if_pos (by decide +kernel)]; kernel_rfl) | (rw [if_neg (by decide +kernel)]; exact ⟨rfl, rfl⟩))
    (fun os started H enc _ => lifted os started H enc)

/-- the statement -/
theorem proved : Rows.RollBehindSaid := over
end Go.Proofs.Ytingpadjciohjaa.rollBehind
