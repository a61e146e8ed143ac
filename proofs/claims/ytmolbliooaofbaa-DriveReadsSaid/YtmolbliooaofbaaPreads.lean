/-
  For every drive, number and text the law DriveReads of package drive returns true: a block that was put is got, flushed or not, each other one is as it was; the arguments read as before
-/
import Derived.Test.YtmolbliooaofbaaRows
import Derived.WalkKit
import Derived.ProofKit
import Derived.OpenShut
import Derived.ShutString
import Derived.Test.YtmolbliooaofbaaHm
namespace Go.Proofs.Ytmolbliooaofbaa.driveReads
open Go.ChangeShapes Go.WideShapes Go.ChangeAt Go.RowKit
open Go.ChangeMaps (open_string shut_string)
open _root_.Go.Proofs.Ytmolbliooaofbaa.Dw
open _root_.Go.Proofs.Ytmolbliooaofbaa.Nm
set_option linter.unusedVariables false
set_option linter.unusedSimpArgs false

theorem own : ownKnob Try.prog.godebug = none := by kernel_rfl
set_option maxRecDepth 100000 in
set_option maxHeartbeats 4000000 in
theorem walk (A : Option Addr) (n c : Nat) (A' : Option Addr) (m c' : Nat) (d : Dm.Dr) (i : Int) (t : ByteArray) (hi : -9223372036854775808 ≤ i ∧ i ≤ 9223372036854775807) (ht : t.size ≤ 2 ^ 63 - 1) (w : World) (hW : Dy w A n c A' m c' d) :
    Calls Try.prog 5 #[.agg (dv A n c A' m c' d.left), .int .i64 i, .string t] w fun e w' => e = .returned (.bool true) ∧ Below w.heap.size w w' := by
  have ob := Bd.new w (dv A n c A' m c' d.left)
  have hgr := fun wr (hh : Dy wr A n c A' m c' d) => great_any A n c A' m c' d wr hh
  have hch := fun wr (hh : Dz wr A n c A' m c' d) => check_any A n c A' m c' d wr hh
  have hy := hW.below ob.b
  have hlB : d.B.length = n := hW.b.1
  have HL := Lib.hid (show d.left = d.left from rfl)
  have hll := hW.l
  generalize hL : d.left = L at *
  go_enter Try.func5, Try.ntmps5
  go_wp2_with fail
  refine (hgr _ hy).mono ?_
  unfold GreatIs
  rintro e w1 ⟨hg, hx1⟩
  have ob1 := ob.below hx1
  rcases hg with rfl | ⟨rfl, hS⟩
  · go_wp2_with fail
    refine (fixed_any _).mono ?_
    rintro e w2 ⟨rfl, hx2⟩
    go_wp2_with fail
    go_ret
    exact ⟨rfl, (ob1.below hx2).b⟩
  have oz : Lz w A n c A' m c' d L w1 := ⟨ob1.o, (hW.dz hS).below ob1.b, ob1.b⟩
  clear ob ob1 hy hx1 hgr
  have d0 := oz.o.cell 0
  have d1 := oz.o.cell 1
  have d2 := oz.o.cell 2
  simp only [List.getElem?_toArray, List.getElem?_cons_zero, List.getElem?_cons_succ] at d0 d1 d2
  go_wp2_with fail
  clear d0 d1 d2
  refine (hch _ oz.z).mono ?_
  rintro e w2 ⟨rfl, hx2⟩
  replace oz := oz.below hx2
  by_cases hc : ¬ Dm.chkM d = 0
  · have hcb : (Dm.chkM d != 0) = true := by simp [hc]
    go_wp2_with fail
    refine (fixed_any _).mono ?_
    rintro e w3 ⟨rfl, hx3⟩
    go_wp2_with fail
    go_ret
    exact ⟨rfl, (oz.below hx3).b⟩
  replace hc := Decidable.not_not.1 hc
  have hok := Dm.chk_ok.1 hc
  rw [hc]
  clear hc hx2
  have HOK := Lib.hid hok
  have HLL := Lib.hid hL
  have hpt := put_lit oz.z HLL.out (by have := hS.m; omega) i t
  clear hch hok hL
  go_wp2_with (refine ld25 rfl rfl rfl oz.o ?_)
  refine hpt.mono ?_
  clear hpt
  rintro e w3 ⟨ha, hx3⟩
  replace oz := oz.below hx3
  clear hx3
  by_cases hhas : ¬ (0 ≤ i ∧ i < (d.B.length : Int))
  · have hF : Dm.putM d i t = (Dm.zero, 2) := if_neg hhas
    obtain ⟨A1, n1, c1, E1, q1, f1, rfl, z1⟩ := ha.lit (L := 0) (k := 2) (by rw [hF]; rfl) (by rw [hF])
    rw [hF] at z1
    dsimp only at z1
    obtain rfl : n1 = 0 := z1.len.1.symm
    replace oz := oz.alloc (Obj.cells (dv A1 0 c1 E1 q1 f1 0) 25)
    have m1 := Mz.new z1 0
    clear z1 hF ha
    go_wp2_with fail
    generalize w3.alloc (Obj.cells (dv A1 0 c1 E1 q1 f1 0) 25) = V3 at *
    generalize w3.heap.size = G1 at *
    refine (fixed_any _).mono ?_
    rintro e w4 ⟨rfl, hx4⟩
    replace oz := oz.below hx4
    replace m1 := m1.below hx4
    clear hx4
    have d0 := m1.o.cell 0
    simp only [List.getElem?_toArray, List.getElem?_cons_zero, List.getElem?_cons_succ] at d0
    go_wp2_with fail
    go_ret
    exact ⟨rfl, oz.b⟩
  replace hhas := Decidable.not_not.1 hhas
  by_cases hts : ¬ t.size = 128
  · have hF : Dm.putM d i t = (Dm.zero, 3) := (if_pos hhas).trans (if_neg hts)
    obtain ⟨A1, n1, c1, E1, q1, f1, rfl, z1⟩ := ha.lit (L := 0) (k := 3) (by rw [hF]; rfl) (by rw [hF])
    rw [hF] at z1
    dsimp only at z1
    obtain rfl : n1 = 0 := z1.len.1.symm
    replace oz := oz.alloc (Obj.cells (dv A1 0 c1 E1 q1 f1 0) 25)
    have m1 := Mz.new z1 0
    clear z1 hF ha
    go_wp2_with fail
    generalize w3.alloc (Obj.cells (dv A1 0 c1 E1 q1 f1 0) 25) = V3 at *
    generalize w3.heap.size = G1 at *
    refine (fixed_any _).mono ?_
    rintro e w4 ⟨rfl, hx4⟩
    replace oz := oz.below hx4
    replace m1 := m1.below hx4
    clear hx4
    have d0 := m1.o.cell 0
    simp only [List.getElem?_toArray, List.getElem?_cons_zero, List.getElem?_cons_succ] at d0
    go_wp2_with fail
    go_ret
    exact ⟨rfl, oz.b⟩
  replace hts := Decidable.not_not.1 hts
  by_cases hl : L = 0
  · have hF : Dm.putM d i t = (d, 17) := (if_pos hhas).trans ((if_pos hts).trans (if_pos (HLL.out.trans hl)))
    obtain ⟨A1, n1, c1, E1, q1, f1, rfl, z1⟩ := ha.lit (L := 0) (k := 17) (by rw [hF]; exact HLL.out.trans hl) (by rw [hF])
    rw [hF] at z1
    dsimp only at z1
    rw [hl] at oz
    subst hl
    replace oz := oz.alloc (Obj.cells (dv A1 n1 c1 E1 q1 f1 0) 25)
    have m1 := Mz.new z1 0
    clear z1 hF ha
    go_wp2_with fail
    generalize w3.alloc (Obj.cells (dv A1 n1 c1 E1 q1 f1 0) 25) = V3 at *
    generalize w3.heap.size = G1 at *
    refine (fixed_any _).mono ?_
    rintro e w4 ⟨rfl, hx4⟩
    replace oz := oz.below hx4
    replace m1 := m1.below hx4
    clear hx4
    have d2 := oz.o.cell 2
    have hsm := same_lit m1.z oz.z HLL.out
    have d0 := m1.o.cell 0
    have d1 := m1.o.cell 1
    have d3 := m1.o.cell 2
    have e0 := oz.o.cell 0
    have e1 := oz.o.cell 1
    simp only [List.getElem?_toArray, List.getElem?_cons_zero, List.getElem?_cons_succ] at d0 d1 d2 d3 e0 e1
    go_wp2_with fail
    refine hsm.mono ?_
    rintro e w5 ⟨rfl, hx5⟩
    go_wp2_with fail
    go_ret
    exact ⟨rfl, (oz.below hx5).b⟩
  have hF : Dm.putM d i t = (Dm.putted d i t, 0) := (if_pos hhas).trans ((if_pos hts).trans (if_neg (fun e => hl (HLL.out.symm.trans e))))
  obtain ⟨A1, n1, c1, E1, q1, f1, rfl, z1⟩ := ha.lit (L := Dm.less L) (k := 0) (by rw [hF]; show Dm.less d.left = _; rw [HLL.out]) (by rw [hF])
  rw [hF] at z1
  dsimp only at z1
  replace oz := oz.alloc (Obj.cells (dv A1 n1 c1 E1 q1 f1 (Dm.less L)) 25)
  have m1 := Mz.new z1 (Dm.less L)
  have hPL : (Dm.putted d i t).left = Dm.less L := by show Dm.less d.left = _; rw [HLL.out]
  have HPL := Lib.hid hPL
  have hokP := HOK.out.putted hhas.1 hhas.2 hts
  have HPG := Lib.hid (fun (k : Nat) => (show Dm.getM (Dm.putted d i t).B (Dm.putted d i t).P k = if i = (k : Int) then t else Dm.getM d.B d.P k from Dm.get_app d.B d.P (i, t) k))
  have HPB := Lib.hid (show (Dm.putted d i t).B.length = n from hlB)
  clear z1 hF ha hPL
  generalize Dm.putted d i t = P at *
  have hless := Dm.less_in hll
  generalize Dm.less L = L1 at *
  have hfl := flush_lit m1.z HPL.out (In.of hokP)
  go_wp2_with fail
  generalize w3.alloc (Obj.cells (dv A1 n1 c1 E1 q1 f1 L1) 25) = V3 at *
  generalize w3.heap.size = G1 at *
  go_wp2_with (refine ld25 rfl rfl rfl m1.o ?_)
  refine hfl.mono ?_
  clear hfl
  rintro e w4 ⟨hb, hx4⟩
  replace oz := oz.below hx4
  replace m1 := m1.below hx4
  clear hx4
  have HQ : ∃ (A2 : Option Addr) (n2 c2 : Nat) (E2 : Option Addr) (q2 f2 : Nat) (L2 kf : Int) (Q : Dm.Dr), e = .returned (.tuple #[.agg (dv A2 n2 c2 E2 q2 f2 L2), .int .i64 kf]) ∧ Dz w4 A2 n2 c2 E2 q2 f2 Q ∧ Q.left = L2 ∧ Q.B.length = n ∧
      (∀ k : Nat, k < n → Dm.getM Q.B Q.P k = Dm.getM P.B P.P k) ∧ (kf = 0 ∨ kf = 17 ∧ L1 = 0) := by
    by_cases h0 : L1 = 0
    · have hF : Dm.flushA P = (P, 17) := if_pos (HPL.out.trans h0)
      obtain ⟨A2, n2, c2, E2, q2, f2, e1, z2⟩ := hb.lit (L := L1) (k := 17) (by rw [hF]; exact HPL.out) (by rw [hF])
      rw [hF] at z2
      exact ⟨A2, n2, c2, E2, q2, f2, L1, 17, P, e1, z2, HPL.out, HPB.out, fun k hk => rfl, .inr ⟨rfl, h0⟩⟩
    · have hF : Dm.flushA P = (Dm.flushed P, 0) := if_neg (fun e => h0 (HPL.out.symm.trans e))
      obtain ⟨A2, n2, c2, E2, q2, f2, e1, z2⟩ := hb.lit (L := Dm.less L1) (k := 0) (by rw [hF]; show Dm.less P.left = _; rw [HPL.out]) (by rw [hF])
      rw [hF] at z2
      exact ⟨A2, n2, c2, E2, q2, f2, Dm.less L1, 0, Dm.flushed P, e1, z2, by show Dm.less P.left = _; rw [HPL.out], (Dm.flush_length P.P P.B).trans HPB.out, fun k hk => Dm.flush_get P.P P.B k (In.of hokP), .inl rfl⟩
  obtain ⟨A2, n2, c2, E2, q2, f2, L2, kf, Q, rfl, z2, hQL, hQB, hQG, hkf⟩ := HQ
  replace oz := oz.alloc (Obj.cells (dv A2 n2 c2 E2 q2 f2 L2) 25)
  replace m1 := m1.alloc (Obj.cells (dv A2 n2 c2 E2 q2 f2 L2) 25)
  have m2 := Mz.new z2 L2
  have HQL := Lib.hid hQL
  have HQB := Lib.hid hQB
  have HQG := Lib.hid hQG
  have HKF := Lib.hid hkf
  clear z2 hb hQL hQB hQG hkf hokP
  have g0 := oz.o.cell 0
  simp only [List.getElem?_toArray, List.getElem?_cons_zero, List.getElem?_cons_succ] at g0
  have hnn := oz.z.b.m
  go_wp2_with fail
  clear g0
  generalize w4.alloc (Obj.cells (dv A2 n2 c2 E2 q2 f2 L2) 25) = V4 at *
  generalize w4.heap.size = G2 at *
  go_loopw [11, 12, 13, 14, 15, 16, 17, 64] (fun _ _ _ _ _ _ _ j wr => ∃ k : Nat, k ≤ n ∧ j = .int .i64 k ∧ Lz w A n c A' m c' d L wr ∧ Mz G1 A1 n1 c1 E1 q1 f1 P L1 wr ∧ Mz G2 A2 n2 c2 E2 q2 f2 Q L2 wr) (fun _ _ _ _ _ _ _ j _ => n - (intOf j).toNat)
  case atStart => exact ⟨0, Nat.zero_le _, rfl, oz, m1, m2⟩
  case round =>
    clear oz m1 m2
    obtain ⟨k, hk, rfl, oz, m1, m2⟩ := hrel
    by_cases hlt : k < n
    · have hlt' : (k : Int) < (n : Int) := by omega
      have hg1 := get_lit oz.z HLL.out (k : Int)
      unfold GetIs at hg1
      rw [hlB, if_pos (by omega), Int.toNat_natCast] at hg1
      have hx := HPG.out k
      have hy := HQG.out k hlt
      generalize Dm.getM d.B d.P k = T at *
      generalize hU : Dm.getM P.B P.P k = U at *
      have HU := Lib.hid hU
      clear hU
      go_wp2_with (refine ld25 rfl rfl rfl oz.o ?_)
      refine hg1.mono ?_
      clear hg1
      rintro e w6 ⟨rfl, hx6⟩
      replace oz := oz.below hx6
      replace m1 := m1.below hx6
      replace m2 := m2.below hx6
      have hg2 := get_lit m1.z HPL.out (k : Int)
      unfold GetIs at hg2
      rw [HPB.out, if_pos (by omega), Int.toNat_natCast, HU.out] at hg2
      have HX := Lib.hid hx
      have HY := Lib.hid hy
      clear hx6 hx hy
      go_wp2_with (refine ld25 rfl rfl rfl m1.o ?_)
      refine hg2.mono ?_
      clear hg2
      rintro e w7 ⟨rfl, hx7⟩
      replace oz := oz.below hx7
      replace m1 := m1.below hx7
      replace m2 := m2.below hx7
      have hg3 := get_lit m2.z HQL.out (k : Int)
      unfold GetIs at hg3
      rw [HQB.out, if_pos (by omega), Int.toNat_natCast, HY.out] at hg3
      clear hx7
      go_wp2_with (refine ld25 rfl rfl rfl m2.o ?_)
      refine hg3.mono ?_
      clear hg3
      rintro e w8 ⟨rfl, hx8⟩
      replace oz := oz.below hx8
      replace m1 := m1.below hx8
      replace m2 := m2.below hx8
      clear hx8
      rcases HKF.out with hkf | ⟨hkf, -⟩ <;> by_cases hik : i = (k : Int)
      · obtain rfl := hkf
        have hb1 : ((k : Int) == i) = true := by simp [hik]
        obtain rfl : U = t := HX.out.trans (if_pos hik)
        have t1 := str_yes (rfl : U = U)
        clear hik
        go_wp2_with fail
        go_roundw
        case rel => exact ⟨k + 1, by omega, by go_num, oz, m1, m2⟩
        case measure => simp [intOf]; omega
      · obtain rfl := hkf
        have hb1 : ((k : Int) == i) = false := by simp; omega
        obtain rfl : U = T := HX.out.trans (if_neg hik)
        have t1 := str_yes (rfl : U = U)
        clear hik
        go_wp2_with fail
        go_roundw
        case rel => exact ⟨k + 1, by omega, by go_num, oz, m1, m2⟩
        case measure => simp [intOf]; omega
      · obtain rfl := hkf
        have hb1 : ((k : Int) == i) = true := by simp [hik]
        obtain rfl : U = t := HX.out.trans (if_pos hik)
        have t1 := str_yes (rfl : U = U)
        clear hik
        go_wp2_with fail
        go_roundw
        case rel => exact ⟨k + 1, by omega, by go_num, oz, m1, m2⟩
        case measure => simp [intOf]; omega
      · obtain rfl := hkf
        have hb1 : ((k : Int) == i) = false := by simp; omega
        obtain rfl : U = T := HX.out.trans (if_neg hik)
        have t1 := str_yes (rfl : U = U)
        clear hik
        go_wp2_with fail
        go_roundw
        case rel => exact ⟨k + 1, by omega, by go_num, oz, m1, m2⟩
        case measure => simp [intOf]; omega
    · obtain rfl : k = n := by omega
      clear m2
      rcases HKF.out with hkf | ⟨hkf, h10⟩
      · obtain rfl := hkf
        go_wp2_with fail
        refine (fixed_any _).mono ?_
        rintro e w6 ⟨rfl, hx6⟩
        go_wp2_with fail
        go_ret
        exact ⟨rfl, (oz.below hx6).b⟩
      · obtain rfl := hkf
        go_wp2_with fail
        refine (fixed_any _).mono ?_
        rintro e w6 ⟨rfl, hx6⟩
        have d2 := (m1.below hx6).o.cell 2
        simp only [List.getElem?_toArray, List.getElem?_cons_zero, List.getElem?_cons_succ] at d2
        rw [h10] at d2
        go_wp2_with fail
        go_ret
        exact ⟨rfl, (oz.below hx6).b⟩

set_option maxRecDepth 100000 in
theorem lifted (os : Os) (started : os.Started) (H : Type) (enc : TypeId × Value → H) :
    ReturnsInHanded {} Try.checked os 5 .any (Rows.driveReadsSpec.pre6 enc Try.prog Try.f5 Rows.driveReadsRow.domain false) (Rows.driveReadsSpec.post enc Try.prog Try.f5 false true false false) := by
  refine returnsInHanded_of_change (C := Try.checked) own started (by kernel_rfl) Try.func5
    (ChangeSpec.witness6 (enc := enc) (C := Try.checked) false ⟨#[], #[.agg #[.slice none 0 0, .slice none 0 0, .int .i64 0], .int .i64 0, .string ByteArray.empty], []⟩ 8 (by kernel_rfl) (by kernel_rfl) (by kernel_rfl) (by kernel_rfl)) ?_
  intro W base args ds gs before hval0 hW hcnd _
  have hval : ∀ (j : Nat) t v, Try.f5.params[j]? = some t → args[j]? = some v → Value.okWide Try.prog W .any base t v := hval0
  have hW' := hW
  obtain ⟨p, q, hA0, hV, rfl, hfz, hnd⟩ := hW
  have hA : DataW.TrodAll enc Try.prog W 0 (fun _ => true) true Try.f5.params.toList args.toList ds p := hA0
  rw [Try.params5] at hA hval
  obtain ⟨v0, vs0, d0, ds0, p0, q0, hargs, rfl, rfl, h0, r0⟩ := trodAll_cons hA
  obtain ⟨v1, vs1, d1, ds1, p1, q1, rfl, rfl, rfl, h1, r1⟩ := trodAll_cons r0
  obtain ⟨v2, vs2, d2, ds2, p2, q2, rfl, rfl, rfl, h2, r2⟩ := trodAll_cons r1
  obtain ⟨rfl, rfl, rfl⟩ := trodAll_nil r2
  obtain rfl : args = #[v0, v1, v2] := by cases args; simp_all
  obtain ⟨rfl, rfl⟩ := trodVars_none hV
  obtain ⟨A0, n0, c0, E0, m0, f0, x0, rfl, y0⟩ := okDrive (hval 0 25 v0 rfl rfl) h0
  have k0 := h0
  have lt0 : ∀ x ∈ p0, x.block < W.heap.size := by obtain ⟨m, hm⟩ := k0; exact DataW.trod_lt m _ _ _ hm
  obtain ⟨n1, rfl, rfl, rfl, w1⟩ := open_int Try.underlying3 (hval 1 3 v1 rfl rfl) h1
  obtain ⟨a2, rfl, rfl, rfl, w2⟩ := open_string Try.underlying9 (hval 2 9 v2 rfl rfl) h2
  clear hA0 hval0
  refine (walk A0 n0 c0 E0 m0 f0 x0 n1 a2 (wf_i64' w1) (by unfold maxLen at w2; exact w2) W y0).mono fun e W' ⟨he, bel⟩ => ?_
  subst he
  exact ⟨_, rfl, _, _, _, [], _, [], hW', trodAll_mk1 (shut_bool Try.underlying4 _), (trodAll_cons_mk (Below.trod laidOut (by kernel_rfl) (of_decide_eq_true (by kernel_rfl)) k0 bel lt0) (trodAll_cons_mk (shut_int Try.underlying3 w1) (trodAll_cons_mk (shut_string Try.underlying9 w2) trodAll_mk0))), rfl, bel.frame _, fun h => by cases h⟩

theorem over : Rows.driveReadsRow.holds Try.pinned (OpenSpec.ofChange Rows.driveReadsSpec) :=
  OpenClaim.holds_of_wide 5 Try.f5 rfl rfl rfl rfl rfl rfl rfl ⟨rfl, rfl, rfl, rfl, rfl⟩ rfl rfl rfl rfl rfl (by kernel_rfl) Try.func5 (by kernel_rfl)
    (of_decide_eq_true (by kernel_rfl)) (by unfold Func.isWrapper; first | (rw [if_pos (by decide +kernel)]; kernel_rfl) | (rw [if_neg (by decide +kernel)]; exact ⟨rfl, rfl⟩))
    (fun os started H enc _ => lifted os started H enc)

/-- the statement -/
theorem proved : Rows.DriveReadsSaid := over
end Go.Proofs.Ytmolbliooaofbaa.driveReads
