/-
  For every drive and any picks the law DriveHalves of package drive returns true: behind a crash each half of each block is as the block, or one of its pending writes, had it; the arguments read as before
-/
import Derived.Test.YtmolbliooaofbaaRows
import Derived.WalkKit
import Derived.ProofKit
import Derived.OpenShut
import Derived.ShutString
import Derived.Test.YtmolbliooaofbaaHm
namespace Go.Proofs.Ytmolbliooaofbaa.driveHalves
open Go.ChangeShapes Go.WideShapes Go.ChangeAt Go.RowKit
open Go.ChangeMaps (open_string shut_string)
open _root_.Go.Proofs.Ytmolbliooaofbaa.Dw
open _root_.Go.Proofs.Ytmolbliooaofbaa.Nm
set_option linter.unusedVariables false
set_option linter.unusedSimpArgs false

theorem own : ownKnob Try.prog.godebug = none := by kernel_rfl
set_option maxRecDepth 100000 in
set_option maxHeartbeats 4000000 in
theorem walk (A : Option Addr) (n c : Nat) (A' : Option Addr) (m c' : Nat) (d : Dm.Dr) (E : Option Addr) (e ec : Nat) (K : List Int) (w : World) (hW : Dy w A n c A' m c' d) (hI : Iz w E e K) :
    Calls Try.prog 7 #[.agg (dv A n c A' m c' d.left), .slice E e ec] w fun e w' => e = .returned (.bool true) ∧ Below w.heap.size w w' := by
  have ob := Bd.new w (dv A n c A' m c' d.left)
  have hgr := fun wr (hh : Dy wr A n c A' m c' d) => great_any A n c A' m c' d wr hh
  have hch := fun wr (hh : Dz wr A n c A' m c' d) => check_any A n c A' m c' d wr hh
  have hy := hW.below ob.b
  have HI := Lib.hid hI
  have hem := hI.m
  have hlB : d.B.length = n := hW.b.1
  have HL := Lib.hid (show d.left = d.left from rfl)
  generalize hL : d.left = L at *
  go_enter Try.func7, Try.ntmps7
  go_wp2_with fail
  refine (hgr _ hy).mono ?_
  unfold GreatIs
  rintro e w1 ⟨hg, hx1⟩
  have ob1 := ob.below hx1
  rcases hg with rfl | ⟨rfl, hS⟩
  · go_wp2_with fail
    refine (fixed_any _).mono ?_
    rintro e w2 ⟨rfl, hx2⟩
    go_wp2_with fail
    go_ret
    exact ⟨rfl, (ob1.below hx2).b⟩
  have oz : Lz w A n c A' m c' d L w1 := ⟨ob1.o, (hW.dz hS).below ob1.b, ob1.b⟩
  clear ob ob1 hy hx1 hgr hI
  have d0 := oz.o.cell 0
  have d1 := oz.o.cell 1
  have d2 := oz.o.cell 2
  simp only [List.getElem?_toArray, List.getElem?_cons_zero, List.getElem?_cons_succ] at d0 d1 d2
  go_wp2_with fail
  clear d0 d1 d2
  refine (hch _ oz.z).mono ?_
  rintro e w2 ⟨rfl, hx2⟩
  replace oz := oz.below hx2
  by_cases hc : ¬ Dm.chkM d = 0
  · have hcb : (Dm.chkM d != 0) = true := by simp [hc]
    go_wp2_with fail
    refine (fixed_any _).mono ?_
    rintro e w3 ⟨rfl, hx3⟩
    go_wp2_with fail
    go_ret
    exact ⟨rfl, (oz.below hx3).b⟩
  replace hc := Decidable.not_not.1 hc
  have hok := Dm.chk_ok.1 hc
  rw [hc]
  clear hc hx2
  by_cases he : 100 < e
  · have he' : (100 : Int) < (e : Int) := by omega
    go_wp2_with fail
    refine (fixed_any _).mono ?_
    rintro e w3 ⟨rfl, hx3⟩
    go_wp2_with fail
    go_ret
    exact ⟨rfl, (oz.below hx3).b⟩
  have he' : ¬ (100 : Int) < (e : Int) := by omega
  have HOK := Lib.hid hok
  have HLL := Lib.hid hL
  have hII := HI.out.below oz.b
  have hcr := crash_lit (ec := ec) oz.z HLL.out hII hok
  clear hch hok hL hII
  go_wp2_with (refine ld25 rfl rfl rfl oz.o ?_)
  refine hcr.mono ?_
  clear hcr
  unfold CrashIs
  rintro e w3 ⟨⟨A2, n2, c2, rfl, z2⟩, hx3⟩
  replace oz := (oz.below hx3).alloc (Obj.cells (dv A2 n2 c2 none 0 0 (-1)) 25)
  have m2 := Mz.new z2 (-1)
  have hCB : (Dm.crashed d K).B.length = n := by rw [← hlB]; exact Dm.crash_length K d.P d.B 0
  have hn2 : n2 = n := by rw [← z2.len.1]; exact hCB
  subst hn2
  have hCK : (Dm.crashed d K).B = Dm.crashM d.B K 0 d.P := rfl
  have HSZ := Lib.hid (fun k (hk : k < n2) => HOK.out.b (nth d.B k) (Dm.nth_mem (by rw [hlB]; exact hk)))
  have HSC := Lib.hid (fun k (hk : k < n2) => (HOK.out.crashed K).b (nth (Dm.crashed d K).B k) (Dm.nth_mem (by rw [hCB]; exact hk)))
  have HSP := Lib.hid (fun q (hq : q < d.P.length) => (HOK.out.p (Dm.wnth d.P q) (Dm.wnth_mem hq)).2)
  have HFO := Lib.hid (fun k (hk : k < n2) => halves HOK.out K (k := k) (by rw [hlB]; exact hk))
  rw [← hCK] at HFO
  have hnn := oz.z.b.m
  have hmm := oz.z.p.m
  have hlP := oz.z.len.2
  clear z2 hx3 hCK hCB
  generalize Dm.crashed d K = C at *
  have e0 := m2.o.cell 0
  have g0 := oz.o.cell 0
  simp only [List.getElem?_toArray, List.getElem?_cons_zero, List.getElem?_cons_succ] at e0 g0
  have t1 : ((n2 : Int) != (n2 : Int)) = false := by simp
  go_wp2_with fail
  clear e0 g0
  generalize w3.alloc (Obj.cells (dv A2 n2 c2 none 0 0 (-1)) 25) = V3 at *
  generalize w3.heap.size = G2 at *
  go_loopw [6, 7, 8, 9, 11, 39] (fun _ _ _ _ _ i wr => ∃ k : Nat, k ≤ n2 ∧ i = .int .i64 k ∧ Lz w A n2 c A' m c' d L wr ∧ Mz G2 A2 n2 c2 none 0 0 C (-1) wr) (fun _ _ _ _ _ i _ => n2 - (intOf i).toNat)
  case atStart => exact ⟨0, Nat.zero_le _, rfl, oz, m2⟩
  case round =>
    clear oz m2
    obtain ⟨k, hk, rfl, oz, m2⟩ := hrel
    by_cases hlt : k < n2
    · have hlt' : (k : Int) < (n2 : Int) := by omega
      obtain ⟨b, off, rfl, hc⟩ := m2.z.b.t.2 (by omega)
      have ck := hc k hlt
      obtain ⟨b', off', rfl, hc'⟩ := oz.z.b.t.2 (by omega)
      have dk := hc' k hlt
      have hs1 := HSC.out k hlt
      have hs2 := HSZ.out k hlt
      obtain ⟨hf1, hf2⟩ := HFO.out k hlt
      have HF1 := Lib.hid hf1
      have HF2 := Lib.hid hf2
      have g0 := oz.o.cell 0
      have g1 := oz.o.cell 1
      simp only [List.getElem?_toArray, List.getElem?_cons_zero, List.getElem?_cons_succ] at g0 g1
      clear hc hc' hf1 hf2
      generalize nth C.B k = S at *
      generalize nth d.B k = T at *
      have i1 : (S.size : Int) = 128 := by omega
      have i2 : (T.size : Int) = 128 := by omega
      obtain ⟨f1, hf1⟩ : ∃ f, fo lo S T (d.P.take 0) k = f := ⟨_, rfl⟩
      obtain ⟨f2, hf2⟩ : ∃ f, fo hi S T (d.P.take 0) k = f := ⟨_, rfl⟩
      have a1 : ((S.extract 0 64).toList == (T.extract 0 64).toList) = f1 := hf1
      have a2 : ((S.extract 64 128).toList == (T.extract 64 128).toList) = f2 := hf2
      have a3 : ((S.extract 64 S.size).toList == (T.extract 64 T.size).toList) = f2 := by rw [hs1, hs2]; exact hf2
      have HA1 := Lib.hid hf1
      have HA2 := Lib.hid hf2
      have HS1 := Lib.hid hs1
      clear hf1 hf2 hs1 hs2
      go_wp2_with fail
      go_quiet (fail)
      clear a1 a2 a3
      go_wp2_with fail
      clear g0 g1 ck dk
      go_loopw [8, 9, 11, 68] (fun x y _ i wv => ∃ q : Nat, q ≤ m ∧ i = .int .i64 q ∧ x = .bool (fo lo S T (d.P.take q) k) ∧ y = .bool (fo hi S T (d.P.take q) k) ∧ Lz w (some ⟨b', off', none⟩) n2 c A' m c' d L wv ∧ Mz G2 (some ⟨b, off, none⟩) n2 c2 none 0 0 C (-1) wv) (fun _ _ _ i _ => m - (intOf i).toNat)
      case atStart => exact ⟨0, Nat.zero_le _, rfl, by rw [HA1.out], by rw [HA2.out], oz.drewN _, m2.drewN _⟩
      case round =>
        clear oz m2
        obtain ⟨q, hq, rfl, rfl, rfl, oz, m2⟩ := hrel
        by_cases hlq : q < m
        · have hlq' : (q : Int) < (m : Int) := by omega
          obtain ⟨b2, off2, rfl, hc⟩ := oz.z.p.c (by omega)
          obtain ⟨c1', c2'⟩ := hc q (by omega)
          have hs3 := HSP.out q (by omega)
          have HT1 := Lib.hid (fo_step (h := lo) (s := S) (b := T) (P := d.P) (k := k) (q := q) (by omega))
          have HT2 := Lib.hid (fo_step (h := hi) (s := S) (b := T) (P := d.P) (k := k) (q := q) (by omega))
          generalize Dm.wnth d.P q = x at *
          obtain ⟨xi, xs⟩ := x
          dsimp only at *
          replace oz := oz.alloc (Obj.cells #[.int .i64 xi, .string xs] 47)
          replace m2 := m2.alloc (Obj.cells #[.int .i64 xi, .string xs] 47)
          generalize fo lo S T (d.P.take q) k = F1 at *
          generalize fo hi S T (d.P.take q) k = F2 at *
          have i3 : (xs.size : Int) = 128 := by omega
          clear hc
          by_cases hxi : xi = (k : Int)
          · have HX := Lib.hid hxi
            obtain ⟨p1, hp1⟩ : ∃ f, ((S.extract 0 64).toList == (xs.extract 0 64).toList) = f := ⟨_, rfl⟩
            obtain ⟨p2, hp2⟩ : ∃ f, ((S.extract 64 128).toList == (xs.extract 64 128).toList) = f := ⟨_, rfl⟩
            have hp3 : ((S.extract 64 S.size).toList == (xs.extract 64 xs.size).toList) = p2 := by rw [HS1.out, hs3]; exact hp2
            have HT3 := Lib.hid (HT1.out.trans ((if_pos hxi).trans (show (F1 || ((S.extract 0 64).toList == (xs.extract 0 64).toList)) = (F1 || p1) by rw [hp1])))
            have HT4 := Lib.hid (HT2.out.trans ((if_pos hxi).trans (show (F2 || ((S.extract 64 128).toList == (xs.extract 64 128).toList)) = (F2 || p2) by rw [hp2])))
            have hx2 : (xi == (k : Int)) = true := by simp [hxi]
            clear hs3 hxi
            cases F1 <;> cases F2
            · go_wp2_with fail
              go_quiet (fail)
              go_wp2_with fail
              go_roundw
              case rel => exact ⟨q + 1, by omega, by go_num, by rw [HT3.out] <;> rfl, by rw [HT4.out] <;> rfl, oz.drewN _, m2.drewN _⟩
              case measure => simp [intOf]; omega
            · go_wp2_with fail
              go_quiet (fail)
              go_wp2_with fail
              go_roundw
              case rel => exact ⟨q + 1, by omega, by go_num, by rw [HT3.out] <;> rfl, by rw [HT4.out] <;> rfl, oz.drewN _, m2.drewN _⟩
              case measure => simp [intOf]; omega
            · go_wp2_with fail
              go_quiet (fail)
              go_wp2_with fail
              go_roundw
              case rel => exact ⟨q + 1, by omega, by go_num, by rw [HT3.out] <;> rfl, by rw [HT4.out] <;> rfl, oz.drewN _, m2.drewN _⟩
              case measure => simp [intOf]; omega
            · go_wp2_with fail
              go_quiet (fail)
              go_wp2_with fail
              go_roundw
              case rel => exact ⟨q + 1, by omega, by go_num, by rw [HT3.out] <;> rfl, by rw [HT4.out] <;> rfl, oz.drewN _, m2.drewN _⟩
              case measure => simp [intOf]; omega
          · have HT3 := Lib.hid (HT1.out.trans (if_neg hxi))
            have HT4 := Lib.hid (HT2.out.trans (if_neg hxi))
            have hx2 : (xi == (k : Int)) = false := by simp [hxi]
            clear hs3
            go_wp2_with fail
            go_roundw
            case rel => exact ⟨q + 1, by omega, by go_num, by rw [HT3.out], by rw [HT4.out], oz, m2⟩
            case measure => simp [intOf]; omega
        · obtain rfl : q = m := by omega
          have hz : d.P.take q = d.P := List.take_of_length_le (by omega)
          rw [hz, HF1.out, HF2.out]
          clear hz
          go_wp2_with fail
          go_roundw
          case rel => exact ⟨k + 1, by omega, by go_num, oz, m2⟩
          case measure => simp [intOf]; omega
    · obtain rfl : k = n2 := by omega
      clear m2
      go_wp2_with fail
      refine (fixed_any _).mono ?_
      rintro e w6 ⟨rfl, hx6⟩
      go_wp2_with fail
      go_ret
      exact ⟨rfl, (oz.below hx6).b⟩

set_option maxRecDepth 100000 in
theorem lifted (os : Os) (started : os.Started) (H : Type) (enc : TypeId × Value → H) :
    ReturnsInHanded {} Try.checked os 7 .any (Rows.driveHalvesSpec.pre6 enc Try.prog Try.f7 Rows.driveHalvesRow.domain false) (Rows.driveHalvesSpec.post enc Try.prog Try.f7 false true false false) := by
  refine returnsInHanded_of_change (C := Try.checked) own started (by kernel_rfl) Try.func7
    (ChangeSpec.witness6 (enc := enc) (C := Try.checked) false ⟨#[], #[.agg #[.slice none 0 0, .slice none 0 0, .int .i64 0], .slice none 0 0], []⟩ 8 (by kernel_rfl) (by kernel_rfl) (by kernel_rfl) (by kernel_rfl)) ?_
  intro W base args ds gs before hval0 hW hcnd _
  have hval : ∀ (j : Nat) t v, Try.f7.params[j]? = some t → args[j]? = some v → Value.okWide Try.prog W .any base t v := hval0
  have hW' := hW
  obtain ⟨p, q, hA0, hV, rfl, hfz, hnd⟩ := hW
  have hA : DataW.TrodAll enc Try.prog W 0 (fun _ => true) true Try.f7.params.toList args.toList ds p := hA0
  rw [Try.params7] at hA hval
  obtain ⟨v0, vs0, d0, ds0, p0, q0, hargs, rfl, rfl, h0, r0⟩ := trodAll_cons hA
  obtain ⟨v1, vs1, d1, ds1, p1, q1, rfl, rfl, rfl, h1, r1⟩ := trodAll_cons r0
  obtain ⟨rfl, rfl, rfl⟩ := trodAll_nil r1
  obtain rfl : args = #[v0, v1] := by cases args; simp_all
  obtain ⟨rfl, rfl⟩ := trodVars_none hV
  obtain ⟨A0, n0, c0, E0, m0, f0, x0, rfl, y0⟩ := okDrive (hval 0 25 v0 rfl rfl) h0
  have k0 := h0
  have lt0 : ∀ x ∈ p0, x.block < W.heap.size := by obtain ⟨m, hm⟩ := k0; exact DataW.trod_lt m _ _ _ hm
  obtain ⟨A1, n1, c1, l1, rfl, y1⟩ := okIntz (hval 1 35 v1 rfl rfl) h1
  have k1 := h1
  have lt1 : ∀ x ∈ p1, x.block < W.heap.size := by obtain ⟨m, hm⟩ := k1; exact DataW.trod_lt m _ _ _ hm
  clear hA0 hval0
  refine (walk A0 n0 c0 E0 m0 f0 x0 A1 n1 c1 l1  W y0 y1).mono fun e W' ⟨he, bel⟩ => ?_
  subst he
  exact ⟨_, rfl, _, _, _, [], _, [], hW', trodAll_mk1 (shut_bool Try.underlying4 _), (trodAll_cons_mk (Below.trod laidOut (by kernel_rfl) (of_decide_eq_true (by kernel_rfl)) k0 bel lt0) (trodAll_cons_mk (Below.trod laidOut (by kernel_rfl) (of_decide_eq_true (by kernel_rfl)) k1 bel lt1) trodAll_mk0)), rfl, bel.frame _, fun h => by cases h⟩

theorem over : Rows.driveHalvesRow.holds Try.pinned (OpenSpec.ofChange Rows.driveHalvesSpec) :=
  OpenClaim.holds_of_wide 7 Try.f7 rfl rfl rfl rfl rfl rfl rfl ⟨rfl, rfl, rfl, rfl, rfl⟩ rfl rfl rfl rfl rfl (by kernel_rfl) Try.func7 (by kernel_rfl)
    (of_decide_eq_true (by kernel_rfl)) (by unfold Func.isWrapper; first | (rw [if_pos (by decide +kernel)]; kernel_rfl) | (rw [if_neg (by decide +kernel)]; exact ⟨rfl, rfl⟩))
    (fun os started H enc _ => lifted os started H enc)

/-- the statement -/
theorem proved : Rows.DriveHalvesSaid := over
end Go.Proofs.Ytmolbliooaofbaa.driveHalves
