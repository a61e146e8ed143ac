/-
  For every drive and any picks the law DriveSure of package drive returns true: behind a flush no crash changes what is got, and nothing is pending; the arguments read as before
-/
import Derived.Test.YtmolbliooaofbaaRows
import Derived.WalkKit
import Derived.ProofKit
import Derived.OpenShut
import Derived.ShutString
import Derived.Test.YtmolbliooaofbaaLw
namespace Go.Proofs.Ytmolbliooaofbaa.driveSure
open Go.ChangeShapes Go.WideShapes Go.ChangeAt Go.RowKit
open Go.ChangeMaps (open_string shut_string)
open _root_.Go.Proofs.Ytmolbliooaofbaa.Dw
open _root_.Go.Proofs.Ytmolbliooaofbaa.Nm
set_option linter.unusedVariables false
set_option linter.unusedSimpArgs false

theorem own : ownKnob Try.prog.godebug = none := by kernel_rfl
set_option maxRecDepth 100000 in
set_option maxHeartbeats 4000000 in
theorem walk (A : Option Addr) (n c : Nat) (A' : Option Addr) (m c' : Nat) (d : Dm.Dr) (E : Option Addr) (e ec : Nat) (K : List Int) (w : World) (hW : Dy w A n c A' m c' d) (hI : Iz w E e K) :
    Calls Try.prog 6 #[.agg (dv A n c A' m c' d.left), .slice E e ec] w fun e w' => e = .returned (.bool true) ∧ Below w.heap.size w w' := by
  have ob := Bd.new w (dv A n c A' m c' d.left)
  have hgr := fun wr (hh : Dy wr A n c A' m c' d) => great_any A n c A' m c' d wr hh
  have hch := fun wr (hh : Dz wr A n c A' m c' d) => check_any A n c A' m c' d wr hh
  have hy := hW.below ob.b
  have HI := Lib.hid hI
  have hem := hI.m
  have hlB : d.B.length = n := hW.b.1
  have HL := Lib.hid (show d.left = d.left from rfl)
  have hll := hW.l
  generalize hL : d.left = L at *
  go_enter Try.func6, Try.ntmps6
  go_wp2_with fail
  refine (hgr _ hy).mono ?_
  unfold GreatIs
  rintro e w1 ⟨hg, hx1⟩
  have ob1 := ob.below hx1
  rcases hg with rfl | ⟨rfl, hS⟩
  · go_wp2_with fail
    refine (fixed_any _).mono ?_
    rintro e w2 ⟨rfl, hx2⟩
    go_wp2_with fail
    go_ret
    exact ⟨rfl, (ob1.below hx2).b⟩
  have oz : Lz w A n c A' m c' d L w1 := ⟨ob1.o, (hW.dz hS).below ob1.b, ob1.b⟩
  clear ob ob1 hy hx1 hgr hI
  have d0 := oz.o.cell 0
  have d1 := oz.o.cell 1
  have d2 := oz.o.cell 2
  simp only [List.getElem?_toArray, List.getElem?_cons_zero, List.getElem?_cons_succ] at d0 d1 d2
  go_wp2_with fail
  clear d0 d1 d2
  refine (hch _ oz.z).mono ?_
  rintro e w2 ⟨rfl, hx2⟩
  replace oz := oz.below hx2
  by_cases hc : ¬ Dm.chkM d = 0
  · have hcb : (Dm.chkM d != 0) = true := by simp [hc]
    go_wp2_with fail
    refine (fixed_any _).mono ?_
    rintro e w3 ⟨rfl, hx3⟩
    go_wp2_with fail
    go_ret
    exact ⟨rfl, (oz.below hx3).b⟩
  replace hc := Decidable.not_not.1 hc
  have hok := Dm.chk_ok.1 hc
  rw [hc]
  clear hc hx2
  by_cases he : 100 < e
  · have he' : (100 : Int) < (e : Int) := by omega
    go_wp2_with fail
    refine (fixed_any _).mono ?_
    rintro e w3 ⟨rfl, hx3⟩
    go_wp2_with fail
    go_ret
    exact ⟨rfl, (oz.below hx3).b⟩
  have he' : ¬ (100 : Int) < (e : Int) := by omega
  have hin := In.of hok
  have HOK := Lib.hid hok
  have hl2 : d.left = L := hL
  have HLL := Lib.hid hL
  have hfl := flush_lit oz.z HLL.out hin
  clear hch hok hL
  go_wp2_with (refine ld25 rfl rfl rfl oz.o ?_)
  refine hfl.mono ?_
  clear hfl
  rintro e w3 ⟨ha, hx3⟩
  replace oz := oz.below hx3
  clear hx3
  by_cases hl : L = 0
  · have hF : Dm.flushA d = (d, 17) := if_pos (HLL.out.trans hl)
    obtain ⟨A1, n1, c1, E1, q1, f1, rfl, z1⟩ := ha.lit (L := 0) (k := 17) (by rw [hF]; exact HLL.out.trans hl) (by rw [hF])
    rw [hF] at z1
    dsimp only at z1
    rw [hl] at oz
    subst hl
    replace oz := oz.alloc (Obj.cells (dv A1 n1 c1 E1 q1 f1 0) 25)
    have m1 := Mz.new z1 0
    clear z1 hF ha hin hl2
    go_wp2_with fail
    generalize w3.alloc (Obj.cells (dv A1 n1 c1 E1 q1 f1 0) 25) = V3 at *
    generalize w3.heap.size = G1 at *
    refine (fixed_any _).mono ?_
    rintro e w4 ⟨rfl, hx4⟩
    replace oz := oz.below hx4
    replace m1 := m1.below hx4
    clear hx4
    have d2 := oz.o.cell 2
    have hsm := same_lit m1.z oz.z HLL.out
    have d0 := m1.o.cell 0
    have d1 := m1.o.cell 1
    have d3 := m1.o.cell 2
    have e0 := oz.o.cell 0
    have e1 := oz.o.cell 1
    simp only [List.getElem?_toArray, List.getElem?_cons_zero, List.getElem?_cons_succ] at d0 d1 d2 d3 e0 e1
    go_wp2_with fail
    refine hsm.mono ?_
    rintro e w5 ⟨rfl, hx5⟩
    go_wp2_with fail
    go_ret
    exact ⟨rfl, (oz.below hx5).b⟩
  · have hF : Dm.flushA d = (Dm.flushed d, 0) := if_neg (fun e => hl (HLL.out.symm.trans e))
    obtain ⟨A1, n1, c1, E1, q1, f1, rfl, z1⟩ := ha.lit (L := Dm.less L) (k := 0) (by rw [hF]; show Dm.less d.left = _; rw [HLL.out]) (by rw [hF])
    rw [hF] at z1
    dsimp only at z1
    obtain rfl : q1 = 0 := z1.len.2.symm
    replace oz := oz.alloc (Obj.cells (dv A1 n1 c1 E1 0 f1 (Dm.less L)) 25)
    have m1 := Mz.new z1 (Dm.less L)
    have hls : (Dm.flushed d).left = Dm.less L := by show Dm.less d.left = _; rw [HLL.out]
    have HLS := Lib.hid hls
    have hokF := HOK.out.flushed
    generalize Dm.less L = L1 at *
    clear z1 hF ha hin hl2 hls
    have hII := HI.out.below oz.b
    have hcr := crash_lit (ec := ec) m1.z HLS.out hII hokF
    go_wp2_with fail
    have o1 := m1.o
    go_wp2_with (refine ld25 rfl rfl rfl o1 ?_)
    refine hcr.mono ?_
    clear hcr o1
    unfold CrashIs
    rintro e w4 ⟨⟨A2, n2, c2, rfl, z2⟩, hx4⟩
    replace oz := (oz.below hx4).alloc (Obj.cells (dv A2 n2 c2 none 0 0 (-1)) 25)
    replace m1 := (m1.below hx4).alloc (Obj.cells (dv A2 n2 c2 none 0 0 (-1)) 25)
    have m2 := Mz.new z2 (-1)
    have hokC := hokF.crashed K
    have hCB : (Dm.crashed (Dm.flushed d) K).B.length = n := by
      rw [← hlB]; exact (Dm.crash_length K [] (Dm.flushM d.B d.P) 0).trans (Dm.flush_length d.P d.B)
    have hn2 : n2 = n := by rw [← z2.len.1]; exact hCB
    subst hn2
    have HCG := Lib.hid (fun k (hk : k < n2) => (show Dm.getM (Dm.crashed (Dm.flushed d) K).B (Dm.crashed (Dm.flushed d) K).P k = Dm.getM d.B d.P k from Dm.flush_get d.P d.B k (In.of HOK.out)))
    have HCL := Lib.hid (show (Dm.crashed (Dm.flushed d) K).left = -1 from rfl)
    have HCK := Lib.hid (Dm.chk_ok.2 hokC)
    have HCB := Lib.hid hCB
    clear z2 hx4 hokF hokC hII hCB
    generalize Dm.crashed (Dm.flushed d) K = C at *
    have d1 := m1.o.cell 1
    have e0 := m2.o.cell 0
    have e1 := m2.o.cell 1
    have e2 := m2.o.cell 2
    have g0 := oz.o.cell 0
    simp only [List.getElem?_toArray, List.getElem?_cons_zero, List.getElem?_cons_succ] at d1 e0 e1 e2 g0
    have hck := check_lit m2.z HCL.out
    rw [HCK.out] at hck
    have t1 : ((n2 : Int) != (n2 : Int)) = false := by simp
    have hnn := oz.z.b.m
    go_wp2_with fail
    clear d1 e0 e1 e2 g0
    refine hck.mono ?_
    clear hck
    rintro e w5 ⟨rfl, hx5⟩
    replace oz := oz.below hx5
    replace m1 := m1.below hx5
    replace m2 := m2.below hx5
    clear hx5
    have e0 := m2.o.cell 0
    have e1 := m2.o.cell 1
    have e2 := m2.o.cell 2
    have g0 := oz.o.cell 0
    simp only [List.getElem?_toArray, List.getElem?_cons_zero, List.getElem?_cons_succ] at e0 e1 e2 g0
    go_wp2_with fail
    clear e0 e1 e2 g0
    generalize w4.heap.size = G2 at *
    generalize w3.heap.size = G1 at *
    go_loopw [8, 9, 10, 11, 12, 80] (fun _ _ _ _ _ i wr => ∃ k : Nat, k ≤ n2 ∧ i = .int .i64 k ∧ Lz w A n2 c A' m c' d L wr ∧ Mz G2 A2 n2 c2 none 0 0 C (-1) wr) (fun _ _ _ _ _ i _ => n2 - (intOf i).toNat)
    case atStart => exact ⟨0, Nat.zero_le _, rfl, oz, m2⟩
    case round =>
      clear oz m1 m2
      obtain ⟨k, hk, rfl, oz, m2⟩ := hrel
      by_cases hlt : k < n2
      · have hlt' : (k : Int) < (n2 : Int) := by omega
        have hg1 := get_lit oz.z HLL.out (k : Int)
        unfold GetIs at hg1
        rw [hlB, if_pos (by omega), Int.toNat_natCast] at hg1
        have hx := HCG.out k hlt
        generalize Dm.getM d.B d.P k = T at *
        go_wp2_with (refine ld25 rfl rfl rfl oz.o ?_)
        refine hg1.mono ?_
        clear hg1
        rintro e w6 ⟨rfl, hx6⟩
        replace oz := oz.below hx6
        replace m2 := m2.below hx6
        have hg2 := get_lit m2.z HCL.out (k : Int)
        unfold GetIs at hg2
        rw [HCB.out, if_pos (by omega), Int.toNat_natCast, hx] at hg2
        clear hx hx6
        go_wp2_with (refine ld25 rfl rfl rfl m2.o ?_)
        refine hg2.mono ?_
        clear hg2
        rintro e w7 ⟨rfl, hx7⟩
        replace oz := oz.below hx7
        replace m2 := m2.below hx7
        clear hx7
        go_wp2_with fail
        go_roundw
        case rel => exact ⟨k + 1, by omega, by go_num, oz, m2⟩
        case measure => simp [intOf]; omega
      · obtain rfl : k = n2 := by omega
        clear m2
        go_wp2_with fail
        refine (fixed_any _).mono ?_
        rintro e w6 ⟨rfl, hx6⟩
        go_wp2_with fail
        go_ret
        exact ⟨rfl, (oz.below hx6).b⟩

set_option maxRecDepth 100000 in
theorem lifted (os : Os) (started : os.Started) (H : Type) (enc : TypeId × Value → H) :
    ReturnsInHanded {} Try.checked os 6 .any (Rows.driveSureSpec.pre6 enc Try.prog Try.f6 Rows.driveSureRow.domain false) (Rows.driveSureSpec.post enc Try.prog Try.f6 false true false false) := by
  refine returnsInHanded_of_change (C := Try.checked) own started (by kernel_rfl) Try.func6
    (ChangeSpec.witness6 (enc := enc) (C := Try.checked) false ⟨#[], #[.agg #[.slice none 0 0, .slice none 0 0, .int .i64 0], .slice none 0 0], []⟩ 8 (by kernel_rfl) (by kernel_rfl) (by kernel_rfl) (by kernel_rfl)) ?_
  intro W base args ds gs before hval0 hW hcnd _
  have hval : ∀ (j : Nat) t v, Try.f6.params[j]? = some t → args[j]? = some v → Value.okWide Try.prog W .any base t v := hval0
  have hW' := hW
  obtain ⟨p, q, hA0, hV, rfl, hfz, hnd⟩ := hW
  have hA : DataW.TrodAll enc Try.prog W 0 (fun _ => true) true Try.f6.params.toList args.toList ds p := hA0
  rw [Try.params6] at hA hval
  obtain ⟨v0, vs0, d0, ds0, p0, q0, hargs, rfl, rfl, h0, r0⟩ := trodAll_cons hA
  obtain ⟨v1, vs1, d1, ds1, p1, q1, rfl, rfl, rfl, h1, r1⟩ := trodAll_cons r0
  obtain ⟨rfl, rfl, rfl⟩ := trodAll_nil r1
  obtain rfl : args = #[v0, v1] := by cases args; simp_all
  obtain ⟨rfl, rfl⟩ := trodVars_none hV
  obtain ⟨A0, n0, c0, E0, m0, f0, x0, rfl, y0⟩ := okDrive (hval 0 25 v0 rfl rfl) h0
  have k0 := h0
  have lt0 : ∀ x ∈ p0, x.block < W.heap.size := by obtain ⟨m, hm⟩ := k0; exact DataW.trod_lt m _ _ _ hm
  obtain ⟨A1, n1, c1, l1, rfl, y1⟩ := okIntz (hval 1 35 v1 rfl rfl) h1
  have k1 := h1
  have lt1 : ∀ x ∈ p1, x.block < W.heap.size := by obtain ⟨m, hm⟩ := k1; exact DataW.trod_lt m _ _ _ hm
  clear hA0 hval0
  refine (walk A0 n0 c0 E0 m0 f0 x0 A1 n1 c1 l1  W y0 y1).mono fun e W' ⟨he, bel⟩ => ?_
  subst he
  exact ⟨_, rfl, _, _, _, [], _, [], hW', trodAll_mk1 (shut_bool Try.underlying4 _), (trodAll_cons_mk (Below.trod laidOut (by kernel_rfl) (of_decide_eq_true (by kernel_rfl)) k0 bel lt0) (trodAll_cons_mk (Below.trod laidOut (by kernel_rfl) (of_decide_eq_true (by kernel_rfl)) k1 bel lt1) trodAll_mk0)), rfl, bel.frame _, fun h => by cases h⟩

theorem over : Rows.driveSureRow.holds Try.pinned (OpenSpec.ofChange Rows.driveSureSpec) :=
  OpenClaim.holds_of_wide 6 Try.f6 rfl rfl rfl rfl rfl rfl rfl ⟨rfl, rfl, rfl, rfl, rfl⟩ rfl rfl rfl rfl rfl (by kernel_rfl) Try.func6 (by kernel_rfl)
    (of_decide_eq_true (by kernel_rfl)) (by unfold Func.isWrapper; first | (rw [if_pos (by decide +kernel)]; kernel_rfl) | (rw [if_neg (by decide +kernel)]; exact ⟨rfl, rfl⟩))
    (fun os started H enc _ => lifted os started H enc)

/-- the statement -/
theorem proved : Rows.DriveSureSaid := over
end Go.Proofs.Ytmolbliooaofbaa.driveSure
