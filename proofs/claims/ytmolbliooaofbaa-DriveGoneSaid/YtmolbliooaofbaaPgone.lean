/-
  For every drive and every number of calls the law DriveGone of package drive returns true: so many calls go through as are left, and then none; the arguments read as before
-/
import Derived.Test.YtmolbliooaofbaaRows
import Derived.WalkKit
import Derived.ProofKit
import Derived.OpenShut
import Derived.ShutString
import Derived.Test.YtmolbliooaofbaaHm
namespace Go.Proofs.Ytmolbliooaofbaa.driveGone
open Go.ChangeShapes Go.WideShapes Go.ChangeAt Go.RowKit
open Go.ChangeMaps (open_string shut_string)
open _root_.Go.Proofs.Ytmolbliooaofbaa.Dw
open _root_.Go.Proofs.Ytmolbliooaofbaa.Nm
set_option linter.unusedVariables false
set_option linter.unusedSimpArgs false

theorem own : ownKnob Try.prog.godebug = none := by kernel_rfl
/-- how many calls are left behind so many -/
def lf (L : Int) (q : Nat) : Int := if L < 0 then L else if (q : Int) ≤ L then L - (q : Int) else 0
theorem lf_zero (L : Int) : lf L 0 = L := by
  unfold lf; split
  · rfl
  · split <;> omega
theorem lf_some {L : Int} {q : Nat} (h : lf L q ≠ 0) : (L < 0 ∨ (q : Int) < L) ∧ Dm.less (lf L q) = lf L (q + 1) := by
  unfold lf at h ⊢
  unfold Dm.less
  by_cases h0 : L < 0
  · rw [if_pos h0] at h ⊢
    rw [if_pos h0, if_neg (by omega)]
    exact ⟨.inl h0, rfl⟩
  · rw [if_neg h0] at h ⊢
    rw [if_neg h0]
    by_cases h1 : (q : Int) ≤ L
    · rw [if_pos h1] at h ⊢
      rw [if_pos (by omega), if_pos (by omega)]
      exact ⟨.inr (by omega), by omega⟩
    · rw [if_neg h1] at h; exact absurd rfl h
theorem lf_none {L : Int} {q : Nat} (h : lf L q = 0) : ¬ L < 0 ∧ ¬ (q : Int) < L ∧ lf L (q + 1) = 0 := by
  unfold lf at h ⊢
  by_cases h0 : L < 0
  · rw [if_pos h0] at h; omega
  · rw [if_neg h0] at h ⊢
    by_cases h1 : (q : Int) ≤ L
    · rw [if_pos h1] at h
      rw [if_neg (by omega)]
      exact ⟨h0, by omega, rfl⟩
    · rw [if_neg (by omega)]
      exact ⟨h0, by omega, rfl⟩
set_option maxRecDepth 100000 in
set_option maxHeartbeats 4000000 in
theorem walk (A : Option Addr) (n c : Nat) (A' : Option Addr) (m c' : Nat) (d : Dm.Dr) (r : Nat) (hr : r < 256) (w : World) (hW : Dy w A n c A' m c' d) :
    Calls Try.prog 8 #[.agg (dv A n c A' m c' d.left), .int .u8 (r : Int)] w fun e w' => e = .returned (.bool true) ∧ Below w.heap.size w w' := by
  have ob := Bd.new w (dv A n c A' m c' d.left)
  have hgr := fun wr (hh : Dy wr A n c A' m c' d) => great_any A n c A' m c' d wr hh
  have hch := fun wr (hh : Dz wr A n c A' m c' d) => check_any A n c A' m c' d wr hh
  have hy := hW.below ob.b
  have hlB : d.B.length = n := hW.b.1
  have HL := Lib.hid (show d.left = d.left from rfl)
  have hll := hW.l
  generalize hL : d.left = L at *
  go_enter Try.func8, Try.ntmps8
  go_wp2_with fail
  refine (hgr _ hy).mono ?_
  unfold GreatIs
  rintro e w1 ⟨hg, hx1⟩
  have ob1 := ob.below hx1
  rcases hg with rfl | ⟨rfl, hS⟩
  · go_wp2_with fail
    refine (fixed_any _).mono ?_
    rintro e w2 ⟨rfl, hx2⟩
    go_wp2_with fail
    go_ret
    exact ⟨rfl, (ob1.below hx2).b⟩
  have oz : Lz w A n c A' m c' d L w1 := ⟨ob1.o, (hW.dz hS).below ob1.b, ob1.b⟩
  clear ob ob1 hy hx1 hgr
  have d0 := oz.o.cell 0
  have d1 := oz.o.cell 1
  have d2 := oz.o.cell 2
  simp only [List.getElem?_toArray, List.getElem?_cons_zero, List.getElem?_cons_succ] at d0 d1 d2
  go_wp2_with fail
  clear d0 d1 d2
  refine (hch _ oz.z).mono ?_
  rintro e w2 ⟨rfl, hx2⟩
  replace oz := oz.below hx2
  by_cases hc : ¬ Dm.chkM d = 0
  · have hcb : (Dm.chkM d != 0) = true := by simp [hc]
    go_wp2_with fail
    refine (fixed_any _).mono ?_
    rintro e w3 ⟨rfl, hx3⟩
    go_wp2_with fail
    go_ret
    exact ⟨rfl, (oz.below hx3).b⟩
  replace hc := Decidable.not_not.1 hc
  have hok := Dm.chk_ok.1 hc
  rw [hc]
  clear hc hx2
  have HOK := Lib.hid hok
  have HLL := Lib.hid hL
  clear hch hok hL
  by_cases hn0 : n = 0
  · have g0 := oz.o.cell 0
    simp only [List.getElem?_toArray, List.getElem?_cons_zero, List.getElem?_cons_succ] at g0
    have hn0' : ((n : Int) == 0) = true := by simp [hn0]
    subst hn0
    go_wp2_with fail
    refine (fixed_any _).mono ?_
    rintro e w3 ⟨rfl, hx3⟩
    go_wp2_with fail
    go_ret
    exact ⟨rfl, (oz.below hx3).b⟩
  have g0 := oz.o.cell 0
  have g2 := oz.o.cell 2
  simp only [List.getElem?_toArray, List.getElem?_cons_zero, List.getElem?_cons_succ] at g0 g2
  have hn0' : ((n : Int) == 0) = false := by simp [hn0]
  have u1 : IntKind.i64.wrap (r : Int) = (r : Int) := IntWalk.i64_in _ (by omega)
  have u2 : (r : Int).tmod 40 = ((r % 40 : Nat) : Int) := rfl
  have u3 : (r : Int) % 40 = ((r % 40 : Nat) : Int) := rfl
  obtain ⟨R, hR⟩ : ∃ R, r % 40 = R := ⟨_, rfl⟩
  have hR40 : R < 40 := by rw [← hR]; exact Nat.mod_lt _ (by decide)
  rw [hR] at u2 u3
  go_wp2_with fail
  clear g0 g2
  go_loopw [6, 7, 8, 29] (fun _ _ _ j wr => ∃ (q : Nat) (A1 : Option Addr) (n1 c1 : Nat) (E1 : Option Addr) (m1 f1 : Nat) (D : Dm.Dr), q ≤ R ∧ j = .int .i64 q ∧ Lz w A1 n1 c1 E1 m1 f1 D D.left wr ∧ Dm.Ok D ∧ D.B.length = n ∧ D.P.length ≤ 60 + q ∧ D.left = lf L q) (fun _ _ _ j _ => R - (intOf j).toNat)
  case atStart => exact ⟨0, A, n, c, A', m, c', d, Nat.zero_le _, rfl, by rw [HLL.out]; exact oz, HOK.out, hlB, by have := hS.m; omega, by rw [HLL.out, lf_zero]⟩
  case round =>
    clear oz
    obtain ⟨q, A1, n1, c1, E1, q1, f1, D, hq, rfl, oz', hDO, hDB, hDP, hDL⟩ := hrel
    have oz := oz'
    rw [hDL] at oz
    clear oz'
    have HDL := Lib.hid hDL
    have HDO := Lib.hid hDO
    have HDB := Lib.hid hDB
    have HDP := Lib.hid hDP
    have hll1 := oz.z.l
    rw [hDL] at hll1
    have hDin := In.of hDO
    by_cases hlt : q < R
    · have hlt' : (q : Int) < (R : Int) := by omega
      have hfl := flush_lit oz.z hDL hDin
      clear hDO hDB hDP hDL hDin
      have hB0 : (0 : Int) ≤ 0 ∧ (0 : Int) < (D.B.length : Int) := by have := HDB.out; omega
      by_cases hz : lf L q = 0
      · obtain ⟨k1, k2, k3⟩ := lf_none hz
        have HDF := Lib.hid (show D.left = lf L (q + 1) by rw [HDL.out, hz, k3])
        have HDZ := Lib.hid (show D.left = 0 from HDL.out.trans hz)
        have hF : Dm.flushA D = (D, 17) := if_pos (HDL.out.trans hz)
        have HPF := Lib.hid (show Dm.putM D 0 Dm.oB = (D, 17) from (if_pos hB0).trans ((if_pos oB_size).trans (if_pos HDZ.out)))
        have HPX := Lib.hid (show ((D, (17 : Int)) : Dm.Dr × Int).1.left = 0 from HDZ.out)
        have t1 : ¬ L < 0 := k1
        have t2 : ¬ (q : Int) < L := k2
        rw [hz] at hfl oz
        go_wp2_with (refine ld25 rfl rfl rfl oz.o ?_)
        refine hfl.mono ?_
        clear hfl
        rintro e w3 ⟨ha, hx3⟩
        obtain ⟨A2, n2, c2, E2, q2, f2, rfl, z2⟩ := ha.lit (L := 0) (k := 17) (by rw [hF]; exact HDL.out.trans hz) (by rw [hF])
        rw [hF] at z2
        dsimp only at z2
        have hG1 : w.heap.size < w3.heap.size := Nat.lt_of_lt_of_le oz.o.lt hx3.size
        replace oz := (oz.below hx3).alloc (Obj.cells (dv A2 n2 c2 E2 q2 f2 0) 25)
        have m1 := Mz.new z2 0
        clear z2 hF ha hx3 k1 k2 k3 hB0
        by_cases he : q % 2 = 0
        · have e1 : (q : Int).tmod 2 = 0 := by rw [show (q : Int).tmod 2 = ((q % 2 : Nat) : Int) from rfl, he]; rfl
          have e2 : (q : Int) % 2 = 0 := by omega
          go_upto_region 9 with fail
          generalize w3.alloc (Obj.cells (dv A2 n2 c2 E2 q2 f2 (0)) 25) = V at *
          generalize w3.heap.size = G1 at *
          refine wp_region_held_drew (S := fun w' => Below w.heap.size w w') (by kernel_rfl) oz.b.drew (fun hHeld => ?_)
          replace oz := oz.drew
          replace m1 := m1.drew
          generalize V.drew = V0 at *
          refine wpAnyH_ready (rs := [0, 1]) (by kernel_rfl) (by simp) ?_
          refine AllReadyH.cons (o := { dst := some 41, op := Op.load 25 (Operand.tmp 2), type := _, pos := _, after := _, guard := _ }) rfl (fun KK hKK => ?_) ?_
          · have hKS := Lib.hid hKK
            clear hKK
            have d0 := oz.o.cell 0
            have d1 := oz.o.cell 1
            have d2 := oz.o.cell 2
            simp only [List.getElem?_toArray, List.getElem?_cons_zero, List.getElem?_cons_succ] at d0 d1 d2
            go_simp
            refine hKS.out.out _ _ oz.b (fun hHeld => ?_)
            clear hKS KK d0 d1 d2
            try simp only [Act.put, List.setIfInBounds_toArray, List.set_cons_zero, List.set_cons_succ]
            refine wpAnyH_ready (rs := [1]) (by kernel_rfl) (by simp) ?_
            refine AllReadyH.cons (o := { dst := some 42, op := Op.call { callee := Callee.value (Operand.func 24), args := #[], argTypes := #[] }, type := _, pos := _, after := _, guard := _ }) rfl (fun KK hKK => ?_) AllReadyH.nil
            have hKS := Lib.hid hKK
            clear hKK
            go_simp
            refine (ones_any _).mono ?_
            rintro e w1 ⟨rfl, hx⟩
            go_wp2_with fail
            replace oz := oz.below hx
            replace m1 := m1.below hx
            refine hKS.out.out _ _ oz.b (fun hHeld => ?_)
            clear hKS KK hx
            try simp only [Act.put, List.setIfInBounds_toArray, List.set_cons_zero, List.set_cons_succ]
            refine wpAnyH_ready (rs := [2]) (by kernel_rfl) (by simp) ?_
            refine AllReadyH.cons (o := { dst := some 43, op := Op.call { callee := Callee.value (Operand.func 16), args := #[Operand.tmp 41, Operand.const (Value.int IntKind.i64 0), Operand.tmp 42], argTypes := #[25, 3, 9] }, type := _, pos := _, after := _, guard := _ }) rfl (fun KK hKK => ?_) AllReadyH.nil
            have hKS := Lib.hid hKK
            clear hKK
            have hpt := put_lit oz.z HDZ.out (by have := HDP.out; omega) 0 Dm.oB
            rw [HPF.out] at hpt
            go_simp
            refine hpt.mono ?_
            clear hpt
            rintro e w2 ⟨hb, hx⟩
            obtain ⟨A3, n3, c3, E3, q3, f3, rfl, z3⟩ := hb.lit (L := 0) (k := 17) HPX.out rfl
            clear hb
            go_wp2_with fail
            replace oz := oz.below hx
            replace m1 := m1.below hx
            refine hKS.out.out _ _ oz.b (fun hHeld => ?_)
            clear hKS KK hx
            try simp only [Act.put, List.setIfInBounds_toArray, List.set_cons_zero, List.set_cons_succ]
            refine wpAnyH_take (i := 3) (oi := { dst := some 40, op := Op.move (Operand.tmp 43), type := _, pos := _, after := _, guard := _ }) (v := ?_) rfl (by kernel_rfl) (by kernel_rfl) (by kernel_rfl) (fun _ _ _ h => h) (Or.inl ⟨by rfl, ?_⟩) hHeld ?_
            rotate_left
            · intro wq hSw
              go_simp
              rfl
            try simp only [Act.put, List.setIfInBounds_toArray, List.set_cons_zero, List.set_cons_succ]
            refine wpAnyH_take (i := 4) (oi := { dst := some 44, op := Op.extract (Operand.tmp 40) 0, type := _, pos := _, after := _, guard := _ }) (v := ?_) rfl (by kernel_rfl) (by kernel_rfl) (by kernel_rfl) (fun _ _ _ h => h) (Or.inl ⟨by rfl, ?_⟩) hHeld ?_
            rotate_left
            · intro wq hSw
              go_simp
              rfl
            try simp only [Act.put, List.setIfInBounds_toArray, List.set_cons_zero, List.set_cons_succ]
            refine wpAnyH_take (i := 5) (oi := { dst := some 45, op := Op.extract (Operand.tmp 40) 1, type := _, pos := _, after := _, guard := _ }) (v := ?_) rfl (by kernel_rfl) (by kernel_rfl) (by kernel_rfl) (fun _ _ _ h => h) (Or.inl ⟨by rfl, ?_⟩) hHeld ?_
            rotate_left
            · intro wq hSw
              go_simp
              rfl
            try simp only [Act.put, List.setIfInBounds_toArray, List.set_cons_zero, List.set_cons_succ]
            refine wpAnyH_ready (rs := [6]) (by kernel_rfl) (by simp) ?_
            refine AllReadyH.cons (o := { dst := none, op := Op.store 25 (Operand.tmp 7) (Operand.tmp 44), type := _, pos := _, after := _, guard := _ }) rfl (fun KK hKK => ?_) AllReadyH.nil
            have hKS := Lib.hid hKK
            clear hKK
            have s7 := St.row w2 G1 (dv A3 n3 c3 E3 q3 f3 (0))
            have o7 : Nm.Own (w2.setRow G1 (dv A3 n3 c3 E3 q3 f3 (0))) G1 25 (dv A3 n3 c3 E3 q3 f3 (0)) := setRow_heap w2 G1 _ _ 25 (0, 0) m1.o
            have m3 : Mz G1 A3 n3 c3 E3 q3 f3 (D) (0) (w2.setRow G1 (dv A3 n3 c3 E3 q3 f3 (0))) := ⟨o7, z3.st m1.o s7⟩
            have oz3 : Lz w A1 n1 c1 E1 q1 f1 D (0) (w2.setRow G1 (dv A3 n3 c3 E3 q3 f3 (0))) := ⟨s7.own oz.o (by omega), oz.z.st m1.o s7, s7.below oz.b (by omega)⟩
            refine st25 (A := A3) (n := n3) (c := c3) (A' := E3) (m := q3) (c' := f3) (l := 0) rfl (.tmp 7) (.tmp 44) rfl (by simp [Act.eval, Act.put]) (by simp [Act.eval, Act.put]) m1.o rfl ?_
            refine hKS.out.out _ _ oz3.b (fun hHeld => ?_)
            clear hKS KK s7 o7 m1 oz z3
            have m1 := m3
            have oz := oz3
            clear m3 oz3
            generalize w2.setRow G1 (dv A3 n3 c3 E3 q3 f3 (0)) = W6 at *
            try simp only [Act.put, List.setIfInBounds_toArray, List.set_cons_zero, List.set_cons_succ]
            refine wpAnyH_take (i := 7) (oi := { dst := some 8, op := Op.assign (Operand.tmp 45), type := _, pos := _, after := _, guard := _ }) (v := ?_) rfl (by kernel_rfl) (by kernel_rfl) (by kernel_rfl) (fun _ _ _ h => h) (Or.inl ⟨by rfl, ?_⟩) hHeld ?_
            rotate_left
            · intro wq hSw
              go_simp
              rfl
            try simp only [Act.put, List.setIfInBounds_toArray, List.set_cons_zero, List.set_cons_succ]
            refine wpAnyH_done (by kernel_rfl) ?_ _
            go_wp2_with fail
            go_roundw
            case rel => exact ⟨q + 1, _, _, _, _, _, _, D, by omega, by go_num, by rw [HDZ.out]; exact oz, HDO.out, HDB.out, by have := HDP.out; omega, HDF.out⟩
            case measure => simp [intOf]; omega
          refine AllReadyH.cons (o := { dst := some 42, op := Op.call { callee := Callee.value (Operand.func 24), args := #[], argTypes := #[] }, type := _, pos := _, after := _, guard := _ }) rfl (fun KK hKK => ?_) AllReadyH.nil
          · have hKS := Lib.hid hKK
            clear hKK
            go_simp
            refine (ones_any _).mono ?_
            rintro e w1 ⟨rfl, hx⟩
            go_wp2_with fail
            replace oz := oz.below hx
            replace m1 := m1.below hx
            refine hKS.out.out _ _ oz.b (fun hHeld => ?_)
            clear hKS KK hx
            try simp only [Act.put, List.setIfInBounds_toArray, List.set_cons_zero, List.set_cons_succ]
            refine wpAnyH_ready (rs := [0]) (by kernel_rfl) (by simp) ?_
            refine AllReadyH.cons (o := { dst := some 41, op := Op.load 25 (Operand.tmp 2), type := _, pos := _, after := _, guard := _ }) rfl (fun KK hKK => ?_) AllReadyH.nil
            have hKS := Lib.hid hKK
            clear hKK
            have d0 := oz.o.cell 0
            have d1 := oz.o.cell 1
            have d2 := oz.o.cell 2
            simp only [List.getElem?_toArray, List.getElem?_cons_zero, List.getElem?_cons_succ] at d0 d1 d2
            go_simp
            refine hKS.out.out _ _ oz.b (fun hHeld => ?_)
            clear hKS KK d0 d1 d2
            try simp only [Act.put, List.setIfInBounds_toArray, List.set_cons_zero, List.set_cons_succ]
            refine wpAnyH_ready (rs := [2]) (by kernel_rfl) (by simp) ?_
            refine AllReadyH.cons (o := { dst := some 43, op := Op.call { callee := Callee.value (Operand.func 16), args := #[Operand.tmp 41, Operand.const (Value.int IntKind.i64 0), Operand.tmp 42], argTypes := #[25, 3, 9] }, type := _, pos := _, after := _, guard := _ }) rfl (fun KK hKK => ?_) AllReadyH.nil
            have hKS := Lib.hid hKK
            clear hKK
            have hpt := put_lit oz.z HDZ.out (by have := HDP.out; omega) 0 Dm.oB
            rw [HPF.out] at hpt
            go_simp
            refine hpt.mono ?_
            clear hpt
            rintro e w2 ⟨hb, hx⟩
            obtain ⟨A3, n3, c3, E3, q3, f3, rfl, z3⟩ := hb.lit (L := 0) (k := 17) HPX.out rfl
            clear hb
            go_wp2_with fail
            replace oz := oz.below hx
            replace m1 := m1.below hx
            refine hKS.out.out _ _ oz.b (fun hHeld => ?_)
            clear hKS KK hx
            try simp only [Act.put, List.setIfInBounds_toArray, List.set_cons_zero, List.set_cons_succ]
            refine wpAnyH_take (i := 3) (oi := { dst := some 40, op := Op.move (Operand.tmp 43), type := _, pos := _, after := _, guard := _ }) (v := ?_) rfl (by kernel_rfl) (by kernel_rfl) (by kernel_rfl) (fun _ _ _ h => h) (Or.inl ⟨by rfl, ?_⟩) hHeld ?_
            rotate_left
            · intro wq hSw
              go_simp
              rfl
            try simp only [Act.put, List.setIfInBounds_toArray, List.set_cons_zero, List.set_cons_succ]
            refine wpAnyH_take (i := 4) (oi := { dst := some 44, op := Op.extract (Operand.tmp 40) 0, type := _, pos := _, after := _, guard := _ }) (v := ?_) rfl (by kernel_rfl) (by kernel_rfl) (by kernel_rfl) (fun _ _ _ h => h) (Or.inl ⟨by rfl, ?_⟩) hHeld ?_
            rotate_left
            · intro wq hSw
              go_simp
              rfl
            try simp only [Act.put, List.setIfInBounds_toArray, List.set_cons_zero, List.set_cons_succ]
            refine wpAnyH_take (i := 5) (oi := { dst := some 45, op := Op.extract (Operand.tmp 40) 1, type := _, pos := _, after := _, guard := _ }) (v := ?_) rfl (by kernel_rfl) (by kernel_rfl) (by kernel_rfl) (fun _ _ _ h => h) (Or.inl ⟨by rfl, ?_⟩) hHeld ?_
            rotate_left
            · intro wq hSw
              go_simp
              rfl
            try simp only [Act.put, List.setIfInBounds_toArray, List.set_cons_zero, List.set_cons_succ]
            refine wpAnyH_ready (rs := [6]) (by kernel_rfl) (by simp) ?_
            refine AllReadyH.cons (o := { dst := none, op := Op.store 25 (Operand.tmp 7) (Operand.tmp 44), type := _, pos := _, after := _, guard := _ }) rfl (fun KK hKK => ?_) AllReadyH.nil
            have hKS := Lib.hid hKK
            clear hKK
            have s7 := St.row w2 G1 (dv A3 n3 c3 E3 q3 f3 (0))
            have o7 : Nm.Own (w2.setRow G1 (dv A3 n3 c3 E3 q3 f3 (0))) G1 25 (dv A3 n3 c3 E3 q3 f3 (0)) := setRow_heap w2 G1 _ _ 25 (0, 0) m1.o
            have m3 : Mz G1 A3 n3 c3 E3 q3 f3 (D) (0) (w2.setRow G1 (dv A3 n3 c3 E3 q3 f3 (0))) := ⟨o7, z3.st m1.o s7⟩
            have oz3 : Lz w A1 n1 c1 E1 q1 f1 D (0) (w2.setRow G1 (dv A3 n3 c3 E3 q3 f3 (0))) := ⟨s7.own oz.o (by omega), oz.z.st m1.o s7, s7.below oz.b (by omega)⟩
            refine st25 (A := A3) (n := n3) (c := c3) (A' := E3) (m := q3) (c' := f3) (l := 0) rfl (.tmp 7) (.tmp 44) rfl (by simp [Act.eval, Act.put]) (by simp [Act.eval, Act.put]) m1.o rfl ?_
            refine hKS.out.out _ _ oz3.b (fun hHeld => ?_)
            clear hKS KK s7 o7 m1 oz z3
            have m1 := m3
            have oz := oz3
            clear m3 oz3
            generalize w2.setRow G1 (dv A3 n3 c3 E3 q3 f3 (0)) = W6 at *
            try simp only [Act.put, List.setIfInBounds_toArray, List.set_cons_zero, List.set_cons_succ]
            refine wpAnyH_take (i := 7) (oi := { dst := some 8, op := Op.assign (Operand.tmp 45), type := _, pos := _, after := _, guard := _ }) (v := ?_) rfl (by kernel_rfl) (by kernel_rfl) (by kernel_rfl) (fun _ _ _ h => h) (Or.inl ⟨by rfl, ?_⟩) hHeld ?_
            rotate_left
            · intro wq hSw
              go_simp
              rfl
            try simp only [Act.put, List.setIfInBounds_toArray, List.set_cons_zero, List.set_cons_succ]
            refine wpAnyH_done (by kernel_rfl) ?_ _
            go_wp2_with fail
            go_roundw
            case rel => exact ⟨q + 1, _, _, _, _, _, _, D, by omega, by go_num, by rw [HDZ.out]; exact oz, HDO.out, HDB.out, by have := HDP.out; omega, HDF.out⟩
            case measure => simp [intOf]; omega
        · have e1 : ((q : Int).tmod 2 == 0) = false := by rw [show (q : Int).tmod 2 = ((q % 2 : Nat) : Int) from rfl]; simp; omega
          have e2 : ((q : Int) % 2 == 0) = false := by simp; omega
          go_wp2_with fail
          go_roundw
          case rel => exact ⟨q + 1, _, _, _, _, _, _, D, by omega, by go_num, by rw [HDZ.out]; exact oz, HDO.out, HDB.out, by have := HDP.out; omega, HDF.out⟩
          case measure => simp [intOf]; omega
      · obtain ⟨k1, k2⟩ := lf_some hz
        have HDZ := Lib.hid (show D.left = lf L q from HDL.out)
        have hF : Dm.flushA D = (Dm.flushed D, 0) := if_neg (fun e => hz (HDL.out.symm.trans e))
        have HPF := Lib.hid (show Dm.putM D 0 Dm.oB = (Dm.putted D 0 Dm.oB, 0) from (if_pos hB0).trans ((if_pos oB_size).trans (if_neg (fun e => hz (HDL.out.symm.trans e)))))
        have HPX := Lib.hid (show ((Dm.putted D 0 Dm.oB, (0 : Int)) : Dm.Dr × Int).1.left = Dm.less (lf L q) from by show Dm.less D.left = _; rw [HDL.out])
        have HXF1 := Lib.hid (show (Dm.flushed D).left = lf L (q + 1) by show Dm.less D.left = _; rw [HDL.out, k2])
        have HXF2 := Lib.hid (show (Dm.putted D 0 Dm.oB).left = lf L (q + 1) by show Dm.less D.left = _; rw [HDL.out, k2])
        have HXL1 := Lib.hid (show (Dm.flushed D).left = Dm.less (lf L q) by show Dm.less D.left = _; rw [HDL.out])
        have HXL2 := Lib.hid (show (Dm.putted D 0 Dm.oB).left = Dm.less (lf L q) by show Dm.less D.left = _; rw [HDL.out])
        have HXO1 := Lib.hid HDO.out.flushed
        have HXO2 := Lib.hid (HDO.out.putted hB0.1 hB0.2 oB_size)
        have HXB1 := Lib.hid (show (Dm.flushed D).B.length = n from (Dm.flush_length D.P D.B).trans HDB.out)
        have HXB2 := Lib.hid (show (Dm.putted D 0 Dm.oB).B.length = n from HDB.out)
        have HXP1 := Lib.hid (show (Dm.flushed D).P.length ≤ 60 + q + 1 from by show ([] : List Dm.Wr).length ≤ _; simp)
        have HXP2 := Lib.hid (show (Dm.putted D 0 Dm.oB).P.length ≤ 60 + q + 1 from by show (D.P ++ [_]).length ≤ _; have := HDP.out; simp; omega)
        have hcond : L < 0 ∨ (¬ L < 0 ∧ (q : Int) < L) := by omega
        generalize hF1 : lf L q = F1 at *
        clear hF1 k1 k2
        generalize Dm.less F1 = F2 at *
        go_wp2_with (refine ld25 rfl rfl rfl oz.o ?_)
        refine hfl.mono ?_
        clear hfl
        rintro e w3 ⟨ha, hx3⟩
        obtain ⟨A2, n2, c2, E2, q2, f2, rfl, z2⟩ := ha.lit (L := F2) (k := 0) (by rw [hF]; exact HXL1.out) (by rw [hF])
        rw [hF] at z2
        dsimp only at z2
        have hG1 : w.heap.size < w3.heap.size := Nat.lt_of_lt_of_le oz.o.lt hx3.size
        replace oz := (oz.below hx3).alloc (Obj.cells (dv A2 n2 c2 E2 q2 f2 F2) 25)
        have m1 := Mz.new z2 F2
        clear z2 hF ha hx3 hB0
        by_cases he : q % 2 = 0
        · have e1 : (q : Int).tmod 2 = 0 := by rw [show (q : Int).tmod 2 = ((q % 2 : Nat) : Int) from rfl, he]; rfl
          have e2 : (q : Int) % 2 = 0 := by omega
          go_upto_region 9 with fail
          generalize w3.alloc (Obj.cells (dv A2 n2 c2 E2 q2 f2 (F2)) 25) = V at *
          generalize w3.heap.size = G1 at *
          refine wp_region_held_drew (S := fun w' => Below w.heap.size w w') (by kernel_rfl) oz.b.drew (fun hHeld => ?_)
          replace oz := oz.drew
          replace m1 := m1.drew
          generalize V.drew = V0 at *
          have HXF := HXF2
          have HXL := HXL2
          have HXO := HXO2
          have HXB := HXB2
          have HXP := HXP2
          rcases hcond with k1 | ⟨k1, k2⟩
          · refine wpAnyH_ready (rs := [0, 1]) (by kernel_rfl) (by simp) ?_
            refine AllReadyH.cons (o := { dst := some 41, op := Op.load 25 (Operand.tmp 2), type := _, pos := _, after := _, guard := _ }) rfl (fun KK hKK => ?_) ?_
            · have hKS := Lib.hid hKK
              clear hKK
              have d0 := oz.o.cell 0
              have d1 := oz.o.cell 1
              have d2 := oz.o.cell 2
              simp only [List.getElem?_toArray, List.getElem?_cons_zero, List.getElem?_cons_succ] at d0 d1 d2
              go_simp
              refine hKS.out.out _ _ oz.b (fun hHeld => ?_)
              clear hKS KK d0 d1 d2
              try simp only [Act.put, List.setIfInBounds_toArray, List.set_cons_zero, List.set_cons_succ]
              refine wpAnyH_ready (rs := [1]) (by kernel_rfl) (by simp) ?_
              refine AllReadyH.cons (o := { dst := some 42, op := Op.call { callee := Callee.value (Operand.func 24), args := #[], argTypes := #[] }, type := _, pos := _, after := _, guard := _ }) rfl (fun KK hKK => ?_) AllReadyH.nil
              have hKS := Lib.hid hKK
              clear hKK
              go_simp
              refine (ones_any _).mono ?_
              rintro e w1 ⟨rfl, hx⟩
              go_wp2_with fail
              replace oz := oz.below hx
              replace m1 := m1.below hx
              refine hKS.out.out _ _ oz.b (fun hHeld => ?_)
              clear hKS KK hx
              try simp only [Act.put, List.setIfInBounds_toArray, List.set_cons_zero, List.set_cons_succ]
              refine wpAnyH_ready (rs := [2]) (by kernel_rfl) (by simp) ?_
              refine AllReadyH.cons (o := { dst := some 43, op := Op.call { callee := Callee.value (Operand.func 16), args := #[Operand.tmp 41, Operand.const (Value.int IntKind.i64 0), Operand.tmp 42], argTypes := #[25, 3, 9] }, type := _, pos := _, after := _, guard := _ }) rfl (fun KK hKK => ?_) AllReadyH.nil
              have hKS := Lib.hid hKK
              clear hKK
              have hpt := put_lit oz.z HDZ.out (by have := HDP.out; omega) 0 Dm.oB
              rw [HPF.out] at hpt
              go_simp
              refine hpt.mono ?_
              clear hpt
              rintro e w2 ⟨hb, hx⟩
              obtain ⟨A3, n3, c3, E3, q3, f3, rfl, z3⟩ := hb.lit (L := F2) (k := 0) HPX.out rfl
              clear hb
              go_wp2_with fail
              replace oz := oz.below hx
              replace m1 := m1.below hx
              refine hKS.out.out _ _ oz.b (fun hHeld => ?_)
              clear hKS KK hx
              try simp only [Act.put, List.setIfInBounds_toArray, List.set_cons_zero, List.set_cons_succ]
              refine wpAnyH_take (i := 3) (oi := { dst := some 40, op := Op.move (Operand.tmp 43), type := _, pos := _, after := _, guard := _ }) (v := ?_) rfl (by kernel_rfl) (by kernel_rfl) (by kernel_rfl) (fun _ _ _ h => h) (Or.inl ⟨by rfl, ?_⟩) hHeld ?_
              rotate_left
              · intro wq hSw
                go_simp
                rfl
              try simp only [Act.put, List.setIfInBounds_toArray, List.set_cons_zero, List.set_cons_succ]
              refine wpAnyH_take (i := 4) (oi := { dst := some 44, op := Op.extract (Operand.tmp 40) 0, type := _, pos := _, after := _, guard := _ }) (v := ?_) rfl (by kernel_rfl) (by kernel_rfl) (by kernel_rfl) (fun _ _ _ h => h) (Or.inl ⟨by rfl, ?_⟩) hHeld ?_
              rotate_left
              · intro wq hSw
                go_simp
                rfl
              try simp only [Act.put, List.setIfInBounds_toArray, List.set_cons_zero, List.set_cons_succ]
              refine wpAnyH_take (i := 5) (oi := { dst := some 45, op := Op.extract (Operand.tmp 40) 1, type := _, pos := _, after := _, guard := _ }) (v := ?_) rfl (by kernel_rfl) (by kernel_rfl) (by kernel_rfl) (fun _ _ _ h => h) (Or.inl ⟨by rfl, ?_⟩) hHeld ?_
              rotate_left
              · intro wq hSw
                go_simp
                rfl
              try simp only [Act.put, List.setIfInBounds_toArray, List.set_cons_zero, List.set_cons_succ]
              refine wpAnyH_ready (rs := [6]) (by kernel_rfl) (by simp) ?_
              refine AllReadyH.cons (o := { dst := none, op := Op.store 25 (Operand.tmp 7) (Operand.tmp 44), type := _, pos := _, after := _, guard := _ }) rfl (fun KK hKK => ?_) AllReadyH.nil
              have hKS := Lib.hid hKK
              clear hKK
              have s7 := St.row w2 G1 (dv A3 n3 c3 E3 q3 f3 (F2))
              have o7 : Nm.Own (w2.setRow G1 (dv A3 n3 c3 E3 q3 f3 (F2))) G1 25 (dv A3 n3 c3 E3 q3 f3 (F2)) := setRow_heap w2 G1 _ _ 25 (0, 0) m1.o
              have m3 : Mz G1 A3 n3 c3 E3 q3 f3 (Dm.putted D 0 Dm.oB) (F2) (w2.setRow G1 (dv A3 n3 c3 E3 q3 f3 (F2))) := ⟨o7, z3.st m1.o s7⟩
              have oz3 : Lz w A1 n1 c1 E1 q1 f1 D (F1) (w2.setRow G1 (dv A3 n3 c3 E3 q3 f3 (F2))) := ⟨s7.own oz.o (by omega), oz.z.st m1.o s7, s7.below oz.b (by omega)⟩
              refine st25 (A := A3) (n := n3) (c := c3) (A' := E3) (m := q3) (c' := f3) (l := F2) rfl (.tmp 7) (.tmp 44) rfl (by simp [Act.eval, Act.put]) (by simp [Act.eval, Act.put]) m1.o rfl ?_
              refine hKS.out.out _ _ oz3.b (fun hHeld => ?_)
              clear hKS KK s7 o7 m1 oz z3
              have m1 := m3
              have oz := oz3
              clear m3 oz3
              generalize w2.setRow G1 (dv A3 n3 c3 E3 q3 f3 (F2)) = W6 at *
              try simp only [Act.put, List.setIfInBounds_toArray, List.set_cons_zero, List.set_cons_succ]
              refine wpAnyH_take (i := 7) (oi := { dst := some 8, op := Op.assign (Operand.tmp 45), type := _, pos := _, after := _, guard := _ }) (v := ?_) rfl (by kernel_rfl) (by kernel_rfl) (by kernel_rfl) (fun _ _ _ h => h) (Or.inl ⟨by rfl, ?_⟩) hHeld ?_
              rotate_left
              · intro wq hSw
                go_simp
                rfl
              try simp only [Act.put, List.setIfInBounds_toArray, List.set_cons_zero, List.set_cons_succ]
              refine wpAnyH_done (by kernel_rfl) ?_ _
              go_wp2_with (first | (refine ld25 rfl rfl rfl m1.o ?_) | (refine sto25 rfl rfl rfl rfl oz.o rfl ?_))
              intro w9 o9 s9
              have z9 := m1.z.st oz.o s9
              have b9 := s9.below oz.b (Nat.le_refl _)
              go_wp2_with fail
              go_roundw
              case rel => exact ⟨q + 1, _, _, _, _, _, _, _, by omega, by go_num, ⟨by rw [HXL.out]; exact o9, z9, b9⟩, HXO.out, HXB.out, by have := HXP.out; omega, HXF.out⟩
              case measure => simp [intOf]; omega
            refine AllReadyH.cons (o := { dst := some 42, op := Op.call { callee := Callee.value (Operand.func 24), args := #[], argTypes := #[] }, type := _, pos := _, after := _, guard := _ }) rfl (fun KK hKK => ?_) AllReadyH.nil
            · have hKS := Lib.hid hKK
              clear hKK
              go_simp
              refine (ones_any _).mono ?_
              rintro e w1 ⟨rfl, hx⟩
              go_wp2_with fail
              replace oz := oz.below hx
              replace m1 := m1.below hx
              refine hKS.out.out _ _ oz.b (fun hHeld => ?_)
              clear hKS KK hx
              try simp only [Act.put, List.setIfInBounds_toArray, List.set_cons_zero, List.set_cons_succ]
              refine wpAnyH_ready (rs := [0]) (by kernel_rfl) (by simp) ?_
              refine AllReadyH.cons (o := { dst := some 41, op := Op.load 25 (Operand.tmp 2), type := _, pos := _, after := _, guard := _ }) rfl (fun KK hKK => ?_) AllReadyH.nil
              have hKS := Lib.hid hKK
              clear hKK
              have d0 := oz.o.cell 0
              have d1 := oz.o.cell 1
              have d2 := oz.o.cell 2
              simp only [List.getElem?_toArray, List.getElem?_cons_zero, List.getElem?_cons_succ] at d0 d1 d2
              go_simp
              refine hKS.out.out _ _ oz.b (fun hHeld => ?_)
              clear hKS KK d0 d1 d2
              try simp only [Act.put, List.setIfInBounds_toArray, List.set_cons_zero, List.set_cons_succ]
              refine wpAnyH_ready (rs := [2]) (by kernel_rfl) (by simp) ?_
              refine AllReadyH.cons (o := { dst := some 43, op := Op.call { callee := Callee.value (Operand.func 16), args := #[Operand.tmp 41, Operand.const (Value.int IntKind.i64 0), Operand.tmp 42], argTypes := #[25, 3, 9] }, type := _, pos := _, after := _, guard := _ }) rfl (fun KK hKK => ?_) AllReadyH.nil
              have hKS := Lib.hid hKK
              clear hKK
              have hpt := put_lit oz.z HDZ.out (by have := HDP.out; omega) 0 Dm.oB
              rw [HPF.out] at hpt
              go_simp
              refine hpt.mono ?_
              clear hpt
              rintro e w2 ⟨hb, hx⟩
              obtain ⟨A3, n3, c3, E3, q3, f3, rfl, z3⟩ := hb.lit (L := F2) (k := 0) HPX.out rfl
              clear hb
              go_wp2_with fail
              replace oz := oz.below hx
              replace m1 := m1.below hx
              refine hKS.out.out _ _ oz.b (fun hHeld => ?_)
              clear hKS KK hx
              try simp only [Act.put, List.setIfInBounds_toArray, List.set_cons_zero, List.set_cons_succ]
              refine wpAnyH_take (i := 3) (oi := { dst := some 40, op := Op.move (Operand.tmp 43), type := _, pos := _, after := _, guard := _ }) (v := ?_) rfl (by kernel_rfl) (by kernel_rfl) (by kernel_rfl) (fun _ _ _ h => h) (Or.inl ⟨by rfl, ?_⟩) hHeld ?_
              rotate_left
              · intro wq hSw
                go_simp
                rfl
              try simp only [Act.put, List.setIfInBounds_toArray, List.set_cons_zero, List.set_cons_succ]
              refine wpAnyH_take (i := 4) (oi := { dst := some 44, op := Op.extract (Operand.tmp 40) 0, type := _, pos := _, after := _, guard := _ }) (v := ?_) rfl (by kernel_rfl) (by kernel_rfl) (by kernel_rfl) (fun _ _ _ h => h) (Or.inl ⟨by rfl, ?_⟩) hHeld ?_
              rotate_left
              · intro wq hSw
                go_simp
                rfl
              try simp only [Act.put, List.setIfInBounds_toArray, List.set_cons_zero, List.set_cons_succ]
              refine wpAnyH_take (i := 5) (oi := { dst := some 45, op := Op.extract (Operand.tmp 40) 1, type := _, pos := _, after := _, guard := _ }) (v := ?_) rfl (by kernel_rfl) (by kernel_rfl) (by kernel_rfl) (fun _ _ _ h => h) (Or.inl ⟨by rfl, ?_⟩) hHeld ?_
              rotate_left
              · intro wq hSw
                go_simp
                rfl
              try simp only [Act.put, List.setIfInBounds_toArray, List.set_cons_zero, List.set_cons_succ]
              refine wpAnyH_ready (rs := [6]) (by kernel_rfl) (by simp) ?_
              refine AllReadyH.cons (o := { dst := none, op := Op.store 25 (Operand.tmp 7) (Operand.tmp 44), type := _, pos := _, after := _, guard := _ }) rfl (fun KK hKK => ?_) AllReadyH.nil
              have hKS := Lib.hid hKK
              clear hKK
              have s7 := St.row w2 G1 (dv A3 n3 c3 E3 q3 f3 (F2))
              have o7 : Nm.Own (w2.setRow G1 (dv A3 n3 c3 E3 q3 f3 (F2))) G1 25 (dv A3 n3 c3 E3 q3 f3 (F2)) := setRow_heap w2 G1 _ _ 25 (0, 0) m1.o
              have m3 : Mz G1 A3 n3 c3 E3 q3 f3 (Dm.putted D 0 Dm.oB) (F2) (w2.setRow G1 (dv A3 n3 c3 E3 q3 f3 (F2))) := ⟨o7, z3.st m1.o s7⟩
              have oz3 : Lz w A1 n1 c1 E1 q1 f1 D (F1) (w2.setRow G1 (dv A3 n3 c3 E3 q3 f3 (F2))) := ⟨s7.own oz.o (by omega), oz.z.st m1.o s7, s7.below oz.b (by omega)⟩
              refine st25 (A := A3) (n := n3) (c := c3) (A' := E3) (m := q3) (c' := f3) (l := F2) rfl (.tmp 7) (.tmp 44) rfl (by simp [Act.eval, Act.put]) (by simp [Act.eval, Act.put]) m1.o rfl ?_
              refine hKS.out.out _ _ oz3.b (fun hHeld => ?_)
              clear hKS KK s7 o7 m1 oz z3
              have m1 := m3
              have oz := oz3
              clear m3 oz3
              generalize w2.setRow G1 (dv A3 n3 c3 E3 q3 f3 (F2)) = W6 at *
              try simp only [Act.put, List.setIfInBounds_toArray, List.set_cons_zero, List.set_cons_succ]
              refine wpAnyH_take (i := 7) (oi := { dst := some 8, op := Op.assign (Operand.tmp 45), type := _, pos := _, after := _, guard := _ }) (v := ?_) rfl (by kernel_rfl) (by kernel_rfl) (by kernel_rfl) (fun _ _ _ h => h) (Or.inl ⟨by rfl, ?_⟩) hHeld ?_
              rotate_left
              · intro wq hSw
                go_simp
                rfl
              try simp only [Act.put, List.setIfInBounds_toArray, List.set_cons_zero, List.set_cons_succ]
              refine wpAnyH_done (by kernel_rfl) ?_ _
              go_wp2_with (first | (refine ld25 rfl rfl rfl m1.o ?_) | (refine sto25 rfl rfl rfl rfl oz.o rfl ?_))
              intro w9 o9 s9
              have z9 := m1.z.st oz.o s9
              have b9 := s9.below oz.b (Nat.le_refl _)
              go_wp2_with fail
              go_roundw
              case rel => exact ⟨q + 1, _, _, _, _, _, _, _, by omega, by go_num, ⟨by rw [HXL.out]; exact o9, z9, b9⟩, HXO.out, HXB.out, by have := HXP.out; omega, HXF.out⟩
              case measure => simp [intOf]; omega
          · refine wpAnyH_ready (rs := [0, 1]) (by kernel_rfl) (by simp) ?_
            refine AllReadyH.cons (o := { dst := some 41, op := Op.load 25 (Operand.tmp 2), type := _, pos := _, after := _, guard := _ }) rfl (fun KK hKK => ?_) ?_
            · have hKS := Lib.hid hKK
              clear hKK
              have d0 := oz.o.cell 0
              have d1 := oz.o.cell 1
              have d2 := oz.o.cell 2
              simp only [List.getElem?_toArray, List.getElem?_cons_zero, List.getElem?_cons_succ] at d0 d1 d2
              go_simp
              refine hKS.out.out _ _ oz.b (fun hHeld => ?_)
              clear hKS KK d0 d1 d2
              try simp only [Act.put, List.setIfInBounds_toArray, List.set_cons_zero, List.set_cons_succ]
              refine wpAnyH_ready (rs := [1]) (by kernel_rfl) (by simp) ?_
              refine AllReadyH.cons (o := { dst := some 42, op := Op.call { callee := Callee.value (Operand.func 24), args := #[], argTypes := #[] }, type := _, pos := _, after := _, guard := _ }) rfl (fun KK hKK => ?_) AllReadyH.nil
              have hKS := Lib.hid hKK
              clear hKK
              go_simp
              refine (ones_any _).mono ?_
              rintro e w1 ⟨rfl, hx⟩
              go_wp2_with fail
              replace oz := oz.below hx
              replace m1 := m1.below hx
              refine hKS.out.out _ _ oz.b (fun hHeld => ?_)
              clear hKS KK hx
              try simp only [Act.put, List.setIfInBounds_toArray, List.set_cons_zero, List.set_cons_succ]
              refine wpAnyH_ready (rs := [2]) (by kernel_rfl) (by simp) ?_
              refine AllReadyH.cons (o := { dst := some 43, op := Op.call { callee := Callee.value (Operand.func 16), args := #[Operand.tmp 41, Operand.const (Value.int IntKind.i64 0), Operand.tmp 42], argTypes := #[25, 3, 9] }, type := _, pos := _, after := _, guard := _ }) rfl (fun KK hKK => ?_) AllReadyH.nil
              have hKS := Lib.hid hKK
              clear hKK
              have hpt := put_lit oz.z HDZ.out (by have := HDP.out; omega) 0 Dm.oB
              rw [HPF.out] at hpt
              go_simp
              refine hpt.mono ?_
              clear hpt
              rintro e w2 ⟨hb, hx⟩
              obtain ⟨A3, n3, c3, E3, q3, f3, rfl, z3⟩ := hb.lit (L := F2) (k := 0) HPX.out rfl
              clear hb
              go_wp2_with fail
              replace oz := oz.below hx
              replace m1 := m1.below hx
              refine hKS.out.out _ _ oz.b (fun hHeld => ?_)
              clear hKS KK hx
              try simp only [Act.put, List.setIfInBounds_toArray, List.set_cons_zero, List.set_cons_succ]
              refine wpAnyH_take (i := 3) (oi := { dst := some 40, op := Op.move (Operand.tmp 43), type := _, pos := _, after := _, guard := _ }) (v := ?_) rfl (by kernel_rfl) (by kernel_rfl) (by kernel_rfl) (fun _ _ _ h => h) (Or.inl ⟨by rfl, ?_⟩) hHeld ?_
              rotate_left
              · intro wq hSw
                go_simp
                rfl
              try simp only [Act.put, List.setIfInBounds_toArray, List.set_cons_zero, List.set_cons_succ]
              refine wpAnyH_take (i := 4) (oi := { dst := some 44, op := Op.extract (Operand.tmp 40) 0, type := _, pos := _, after := _, guard := _ }) (v := ?_) rfl (by kernel_rfl) (by kernel_rfl) (by kernel_rfl) (fun _ _ _ h => h) (Or.inl ⟨by rfl, ?_⟩) hHeld ?_
              rotate_left
              · intro wq hSw
                go_simp
                rfl
              try simp only [Act.put, List.setIfInBounds_toArray, List.set_cons_zero, List.set_cons_succ]
              refine wpAnyH_take (i := 5) (oi := { dst := some 45, op := Op.extract (Operand.tmp 40) 1, type := _, pos := _, after := _, guard := _ }) (v := ?_) rfl (by kernel_rfl) (by kernel_rfl) (by kernel_rfl) (fun _ _ _ h => h) (Or.inl ⟨by rfl, ?_⟩) hHeld ?_
              rotate_left
              · intro wq hSw
                go_simp
                rfl
              try simp only [Act.put, List.setIfInBounds_toArray, List.set_cons_zero, List.set_cons_succ]
              refine wpAnyH_ready (rs := [6]) (by kernel_rfl) (by simp) ?_
              refine AllReadyH.cons (o := { dst := none, op := Op.store 25 (Operand.tmp 7) (Operand.tmp 44), type := _, pos := _, after := _, guard := _ }) rfl (fun KK hKK => ?_) AllReadyH.nil
              have hKS := Lib.hid hKK
              clear hKK
              have s7 := St.row w2 G1 (dv A3 n3 c3 E3 q3 f3 (F2))
              have o7 : Nm.Own (w2.setRow G1 (dv A3 n3 c3 E3 q3 f3 (F2))) G1 25 (dv A3 n3 c3 E3 q3 f3 (F2)) := setRow_heap w2 G1 _ _ 25 (0, 0) m1.o
              have m3 : Mz G1 A3 n3 c3 E3 q3 f3 (Dm.putted D 0 Dm.oB) (F2) (w2.setRow G1 (dv A3 n3 c3 E3 q3 f3 (F2))) := ⟨o7, z3.st m1.o s7⟩
              have oz3 : Lz w A1 n1 c1 E1 q1 f1 D (F1) (w2.setRow G1 (dv A3 n3 c3 E3 q3 f3 (F2))) := ⟨s7.own oz.o (by omega), oz.z.st m1.o s7, s7.below oz.b (by omega)⟩
              refine st25 (A := A3) (n := n3) (c := c3) (A' := E3) (m := q3) (c' := f3) (l := F2) rfl (.tmp 7) (.tmp 44) rfl (by simp [Act.eval, Act.put]) (by simp [Act.eval, Act.put]) m1.o rfl ?_
              refine hKS.out.out _ _ oz3.b (fun hHeld => ?_)
              clear hKS KK s7 o7 m1 oz z3
              have m1 := m3
              have oz := oz3
              clear m3 oz3
              generalize w2.setRow G1 (dv A3 n3 c3 E3 q3 f3 (F2)) = W6 at *
              try simp only [Act.put, List.setIfInBounds_toArray, List.set_cons_zero, List.set_cons_succ]
              refine wpAnyH_take (i := 7) (oi := { dst := some 8, op := Op.assign (Operand.tmp 45), type := _, pos := _, after := _, guard := _ }) (v := ?_) rfl (by kernel_rfl) (by kernel_rfl) (by kernel_rfl) (fun _ _ _ h => h) (Or.inl ⟨by rfl, ?_⟩) hHeld ?_
              rotate_left
              · intro wq hSw
                go_simp
                rfl
              try simp only [Act.put, List.setIfInBounds_toArray, List.set_cons_zero, List.set_cons_succ]
              refine wpAnyH_done (by kernel_rfl) ?_ _
              go_wp2_with (first | (refine ld25 rfl rfl rfl m1.o ?_) | (refine sto25 rfl rfl rfl rfl oz.o rfl ?_))
              intro w9 o9 s9
              have z9 := m1.z.st oz.o s9
              have b9 := s9.below oz.b (Nat.le_refl _)
              go_wp2_with fail
              go_roundw
              case rel => exact ⟨q + 1, _, _, _, _, _, _, _, by omega, by go_num, ⟨by rw [HXL.out]; exact o9, z9, b9⟩, HXO.out, HXB.out, by have := HXP.out; omega, HXF.out⟩
              case measure => simp [intOf]; omega
            refine AllReadyH.cons (o := { dst := some 42, op := Op.call { callee := Callee.value (Operand.func 24), args := #[], argTypes := #[] }, type := _, pos := _, after := _, guard := _ }) rfl (fun KK hKK => ?_) AllReadyH.nil
            · have hKS := Lib.hid hKK
              clear hKK
              go_simp
              refine (ones_any _).mono ?_
              rintro e w1 ⟨rfl, hx⟩
              go_wp2_with fail
              replace oz := oz.below hx
              replace m1 := m1.below hx
              refine hKS.out.out _ _ oz.b (fun hHeld => ?_)
              clear hKS KK hx
              try simp only [Act.put, List.setIfInBounds_toArray, List.set_cons_zero, List.set_cons_succ]
              refine wpAnyH_ready (rs := [0]) (by kernel_rfl) (by simp) ?_
              refine AllReadyH.cons (o := { dst := some 41, op := Op.load 25 (Operand.tmp 2), type := _, pos := _, after := _, guard := _ }) rfl (fun KK hKK => ?_) AllReadyH.nil
              have hKS := Lib.hid hKK
              clear hKK
              have d0 := oz.o.cell 0
              have d1 := oz.o.cell 1
              have d2 := oz.o.cell 2
              simp only [List.getElem?_toArray, List.getElem?_cons_zero, List.getElem?_cons_succ] at d0 d1 d2
              go_simp
              refine hKS.out.out _ _ oz.b (fun hHeld => ?_)
              clear hKS KK d0 d1 d2
              try simp only [Act.put, List.setIfInBounds_toArray, List.set_cons_zero, List.set_cons_succ]
              refine wpAnyH_ready (rs := [2]) (by kernel_rfl) (by simp) ?_
              refine AllReadyH.cons (o := { dst := some 43, op := Op.call { callee := Callee.value (Operand.func 16), args := #[Operand.tmp 41, Operand.const (Value.int IntKind.i64 0), Operand.tmp 42], argTypes := #[25, 3, 9] }, type := _, pos := _, after := _, guard := _ }) rfl (fun KK hKK => ?_) AllReadyH.nil
              have hKS := Lib.hid hKK
              clear hKK
              have hpt := put_lit oz.z HDZ.out (by have := HDP.out; omega) 0 Dm.oB
              rw [HPF.out] at hpt
              go_simp
              refine hpt.mono ?_
              clear hpt
              rintro e w2 ⟨hb, hx⟩
              obtain ⟨A3, n3, c3, E3, q3, f3, rfl, z3⟩ := hb.lit (L := F2) (k := 0) HPX.out rfl
              clear hb
              go_wp2_with fail
              replace oz := oz.below hx
              replace m1 := m1.below hx
              refine hKS.out.out _ _ oz.b (fun hHeld => ?_)
              clear hKS KK hx
              try simp only [Act.put, List.setIfInBounds_toArray, List.set_cons_zero, List.set_cons_succ]
              refine wpAnyH_take (i := 3) (oi := { dst := some 40, op := Op.move (Operand.tmp 43), type := _, pos := _, after := _, guard := _ }) (v := ?_) rfl (by kernel_rfl) (by kernel_rfl) (by kernel_rfl) (fun _ _ _ h => h) (Or.inl ⟨by rfl, ?_⟩) hHeld ?_
              rotate_left
              · intro wq hSw
                go_simp
                rfl
              try simp only [Act.put, List.setIfInBounds_toArray, List.set_cons_zero, List.set_cons_succ]
              refine wpAnyH_take (i := 4) (oi := { dst := some 44, op := Op.extract (Operand.tmp 40) 0, type := _, pos := _, after := _, guard := _ }) (v := ?_) rfl (by kernel_rfl) (by kernel_rfl) (by kernel_rfl) (fun _ _ _ h => h) (Or.inl ⟨by rfl, ?_⟩) hHeld ?_
              rotate_left
              · intro wq hSw
                go_simp
                rfl
              try simp only [Act.put, List.setIfInBounds_toArray, List.set_cons_zero, List.set_cons_succ]
              refine wpAnyH_take (i := 5) (oi := { dst := some 45, op := Op.extract (Operand.tmp 40) 1, type := _, pos := _, after := _, guard := _ }) (v := ?_) rfl (by kernel_rfl) (by kernel_rfl) (by kernel_rfl) (fun _ _ _ h => h) (Or.inl ⟨by rfl, ?_⟩) hHeld ?_
              rotate_left
              · intro wq hSw
                go_simp
                rfl
              try simp only [Act.put, List.setIfInBounds_toArray, List.set_cons_zero, List.set_cons_succ]
              refine wpAnyH_ready (rs := [6]) (by kernel_rfl) (by simp) ?_
              refine AllReadyH.cons (o := { dst := none, op := Op.store 25 (Operand.tmp 7) (Operand.tmp 44), type := _, pos := _, after := _, guard := _ }) rfl (fun KK hKK => ?_) AllReadyH.nil
              have hKS := Lib.hid hKK
              clear hKK
              have s7 := St.row w2 G1 (dv A3 n3 c3 E3 q3 f3 (F2))
              have o7 : Nm.Own (w2.setRow G1 (dv A3 n3 c3 E3 q3 f3 (F2))) G1 25 (dv A3 n3 c3 E3 q3 f3 (F2)) := setRow_heap w2 G1 _ _ 25 (0, 0) m1.o
              have m3 : Mz G1 A3 n3 c3 E3 q3 f3 (Dm.putted D 0 Dm.oB) (F2) (w2.setRow G1 (dv A3 n3 c3 E3 q3 f3 (F2))) := ⟨o7, z3.st m1.o s7⟩
              have oz3 : Lz w A1 n1 c1 E1 q1 f1 D (F1) (w2.setRow G1 (dv A3 n3 c3 E3 q3 f3 (F2))) := ⟨s7.own oz.o (by omega), oz.z.st m1.o s7, s7.below oz.b (by omega)⟩
              refine st25 (A := A3) (n := n3) (c := c3) (A' := E3) (m := q3) (c' := f3) (l := F2) rfl (.tmp 7) (.tmp 44) rfl (by simp [Act.eval, Act.put]) (by simp [Act.eval, Act.put]) m1.o rfl ?_
              refine hKS.out.out _ _ oz3.b (fun hHeld => ?_)
              clear hKS KK s7 o7 m1 oz z3
              have m1 := m3
              have oz := oz3
              clear m3 oz3
              generalize w2.setRow G1 (dv A3 n3 c3 E3 q3 f3 (F2)) = W6 at *
              try simp only [Act.put, List.setIfInBounds_toArray, List.set_cons_zero, List.set_cons_succ]
              refine wpAnyH_take (i := 7) (oi := { dst := some 8, op := Op.assign (Operand.tmp 45), type := _, pos := _, after := _, guard := _ }) (v := ?_) rfl (by kernel_rfl) (by kernel_rfl) (by kernel_rfl) (fun _ _ _ h => h) (Or.inl ⟨by rfl, ?_⟩) hHeld ?_
              rotate_left
              · intro wq hSw
                go_simp
                rfl
              try simp only [Act.put, List.setIfInBounds_toArray, List.set_cons_zero, List.set_cons_succ]
              refine wpAnyH_done (by kernel_rfl) ?_ _
              go_wp2_with (first | (refine ld25 rfl rfl rfl m1.o ?_) | (refine sto25 rfl rfl rfl rfl oz.o rfl ?_))
              intro w9 o9 s9
              have z9 := m1.z.st oz.o s9
              have b9 := s9.below oz.b (Nat.le_refl _)
              go_wp2_with fail
              go_roundw
              case rel => exact ⟨q + 1, _, _, _, _, _, _, _, by omega, by go_num, ⟨by rw [HXL.out]; exact o9, z9, b9⟩, HXO.out, HXB.out, by have := HXP.out; omega, HXF.out⟩
              case measure => simp [intOf]; omega
        · have e1 : ((q : Int).tmod 2 == 0) = false := by rw [show (q : Int).tmod 2 = ((q % 2 : Nat) : Int) from rfl]; simp; omega
          have e2 : ((q : Int) % 2 == 0) = false := by simp; omega
          have HXF := HXF1
          have HXL := HXL1
          have HXO := HXO1
          have HXB := HXB1
          have HXP := HXP1
          rcases hcond with k1 | ⟨k1, k2⟩
          · go_wp2_with (first | (refine ld25 rfl rfl rfl m1.o ?_) | (refine sto25 rfl rfl rfl rfl oz.o rfl ?_))
            intro w9 o9 s9
            have z9 := m1.z.st oz.o s9
            have b9 := s9.below oz.b (Nat.le_refl _)
            go_wp2_with fail
            go_roundw
            case rel => exact ⟨q + 1, _, _, _, _, _, _, _, by omega, by go_num, ⟨by rw [HXL.out]; exact o9, z9, b9⟩, HXO.out, HXB.out, by have := HXP.out; omega, HXF.out⟩
            case measure => simp [intOf]; omega
          · go_wp2_with (first | (refine ld25 rfl rfl rfl m1.o ?_) | (refine sto25 rfl rfl rfl rfl oz.o rfl ?_))
            intro w9 o9 s9
            have z9 := m1.z.st oz.o s9
            have b9 := s9.below oz.b (Nat.le_refl _)
            go_wp2_with fail
            go_roundw
            case rel => exact ⟨q + 1, _, _, _, _, _, _, _, by omega, by go_num, ⟨by rw [HXL.out]; exact o9, z9, b9⟩, HXO.out, HXB.out, by have := HXP.out; omega, HXF.out⟩
            case measure => simp [intOf]; omega
    · obtain rfl : q = R := by omega
      go_wp2_with fail
      refine (fixed_any _).mono ?_
      rintro e w6 ⟨rfl, hx6⟩
      go_wp2_with fail
      go_ret
      exact ⟨rfl, (oz.below hx6).b⟩

set_option maxRecDepth 100000 in
theorem lifted (os : Os) (started : os.Started) (H : Type) (enc : TypeId × Value → H) :
    ReturnsInHanded {} Try.checked os 8 .any (Rows.driveGoneSpec.pre6 enc Try.prog Try.f8 Rows.driveGoneRow.domain false) (Rows.driveGoneSpec.post enc Try.prog Try.f8 false true false false) := by
  refine returnsInHanded_of_change (C := Try.checked) own started (by kernel_rfl) Try.func8
    (ChangeSpec.witness6 (enc := enc) (C := Try.checked) false ⟨#[], #[.agg #[.slice none 0 0, .slice none 0 0, .int .i64 0], .int .u8 0], []⟩ 8 (by kernel_rfl) (by kernel_rfl) (by kernel_rfl) (by kernel_rfl)) ?_
  intro W base args ds gs before hval0 hW hcnd _
  have hval : ∀ (j : Nat) t v, Try.f8.params[j]? = some t → args[j]? = some v → Value.okWide Try.prog W .any base t v := hval0
  have hW' := hW
  obtain ⟨p, q, hA0, hV, rfl, hfz, hnd⟩ := hW
  have hA : DataW.TrodAll enc Try.prog W 0 (fun _ => true) true Try.f8.params.toList args.toList ds p := hA0
  rw [Try.params8] at hA hval
  obtain ⟨v0, vs0, d0, ds0, p0, q0, hargs, rfl, rfl, h0, r0⟩ := trodAll_cons hA
  obtain ⟨v1, vs1, d1, ds1, p1, q1, rfl, rfl, rfl, h1, r1⟩ := trodAll_cons r0
  obtain ⟨rfl, rfl, rfl⟩ := trodAll_nil r1
  obtain rfl : args = #[v0, v1] := by cases args; simp_all
  obtain ⟨rfl, rfl⟩ := trodVars_none hV
  obtain ⟨A0, n0, c0, E0, m0, f0, x0, rfl, y0⟩ := okDrive (hval 0 25 v0 rfl rfl) h0
  have k0 := h0
  have lt0 : ∀ x ∈ p0, x.block < W.heap.size := by obtain ⟨m, hm⟩ := k0; exact DataW.trod_lt m _ _ _ hm
  obtain ⟨n1, rfl, rfl, rfl, w1⟩ := open_int Try.underlying5 (hval 1 5 v1 rfl rfl) h1
  obtain ⟨m1, rfl, z1⟩ := nat_u8 w1
  clear hA0 hval0
  refine (walk A0 n0 c0 E0 m0 f0 x0 m1 z1 W y0).mono fun e W' ⟨he, bel⟩ => ?_
  subst he
  exact ⟨_, rfl, _, _, _, [], _, [], hW', trodAll_mk1 (shut_bool Try.underlying4 _), (trodAll_cons_mk (Below.trod laidOut (by kernel_rfl) (of_decide_eq_true (by kernel_rfl)) k0 bel lt0) (trodAll_cons_mk (shut_int Try.underlying5 w1) trodAll_mk0)), rfl, bel.frame _, fun h => by cases h⟩

theorem over : Rows.driveGoneRow.holds Try.pinned (OpenSpec.ofChange Rows.driveGoneSpec) :=
  OpenClaim.holds_of_wide 8 Try.f8 rfl rfl rfl rfl rfl rfl rfl ⟨rfl, rfl, rfl, rfl, rfl⟩ rfl rfl rfl rfl rfl (by kernel_rfl) Try.func8 (by kernel_rfl)
    (of_decide_eq_true (by kernel_rfl)) (by unfold Func.isWrapper; first | (rw [if_pos (by decide +kernel)]; kernel_rfl) | (rw [if_neg (by decide +kernel)]; exact ⟨rfl, rfl⟩))
    (fun os started H enc _ => lifted os started H enc)

/-- the statement -/
theorem proved : Rows.DriveGoneSaid := over
end Go.Proofs.Ytmolbliooaofbaa.driveGone
