/-
  THE WALKS of what a loss of power makes of a drive: the document's.
-/
import Derived.Test.YtmolbliooaofbaaDg
namespace Go.Proofs.Ytmolbliooaofbaa
set_option linter.unusedVariables false
set_option maxRecDepth 100000
set_option linter.unusedSimpArgs false
open Go.RowKit
namespace Dw
open _root_.Go.Proofs.Ytmolbliooaofbaa.Nm
open Dm (Wr wnth)
theorem setI_self {B : List ByteArray} {k : Nat} (h : k < B.length) : Dm.setI B (k : Int) (nth B k) = B := by
  unfold Dm.setI
  rw [Int.toNat_natCast, nth_eq h]
  exact List.set_getElem_self h
/-- a write's box -/
structure Rx (Bx k : Nat) (xs : ByteArray) (wq : World) : Prop where
  b : wq.cell? ⟨Bx, 0, none⟩ = some (.int .i64 (k : Int))
  c : wq.cell? ⟨Bx, 1, none⟩ = some (.string xs)
theorem Rx.dr {Bx k : Nat} {xs : ByteArray} {wq w' : World} (h : Rx Bx k xs wq) (hd : Dr wq w') : Rx Bx k xs w' := by
  obtain ⟨q, rfl⟩ := hd
  exact ⟨h.b, h.c⟩
theorem Rx.st {Bx k g : Nat} {xs : ByteArray} {wq w' : World} (h : Rx Bx k xs wq) (hs : St g wq w') (n3 : Bx ≠ g) : Rx Bx k xs w' :=
  ⟨(World.cell?_of_block (w := wq) (a := ⟨Bx, 0, none⟩) (hs.block _ n3)).trans h.b, (World.cell?_of_block (w := wq) (a := ⟨Bx, 1, none⟩) (hs.block _ n3)).trans h.c⟩
theorem B2.dr {w wr w1 : World} {cs ds : Array Value} (h : B2 w cs ds wr) (k : Dr wr w1) : B2 w cs ds w1 := ⟨Own.dr h.o k, Own.dr h.q k, below_dr h.b k⟩
theorem B2.st {w wr w1 : World} {cs ds : Array Value} {k : Nat} (h : B2 w cs ds wr) (hs : St k wr w1) (h1 : w.heap.size + 2 ≤ k) : B2 w cs ds w1 :=
  ⟨hs.own h.o (by omega), hs.own h.q (by omega), hs.below h.b (by omega)⟩
set_option maxHeartbeats 4000000 in
theorem rcrash_any (A : Option Addr) (n c : Nat) (A' : Option Addr) (m c' : Nat) (d : Dm.Dr) (E : Option Addr) (e ec : Nat) (K : List Int) (w : World) (h : Dz w A n c A' m c' d) (hk : Iz w E e K) (hok : Dm.Ok d) :
    Calls Try.prog 21 #[.agg (dv A n c A' m c' d.left), .slice E e ec] w fun e w' => (∃ A1 c1, e = .returned (.agg (dv A1 n c1 none 0 0 (-1))) ∧ RS w' w.heap.size A1 n c1 (Dm.crashM d.B K 0 d.P)) ∧ Below w.heap.size w w' := by
  have ob := B2.new w (dv A n c A' m c' d.left) (dv none 0 0 none 0 0 0)
  have H0 := Lib.hid h
  have HK := Lib.hid hk
  have HO := Lib.hid hok
  have hn : d.B.length = n := h.b.t.1
  have hnm := h.b.m
  have hpn : d.P.length = m := h.p.len
  have hpm := h.p.m
  have hem := hk.m
  have sz1 : ((w.alloc (Obj.cells (dv A n c A' m c' d.left) 25)).alloc (Obj.cells (dv none 0 0 none 0 0 0) 25)).heap.size = w.heap.size + 2 := by simp
  generalize hL : d.left = L at *
  have gb := grow ((w.alloc (Obj.cells (dv A n c A' m c' L) 25)).alloc (Obj.cells (dv none 0 0 none 0 0 0) 25)) (Obj.cells #[] 9)
  have ob1 := ob.below gb
  have r0 : RS (((w.alloc (Obj.cells (dv A n c A' m c' L) 25)).alloc (Obj.cells (dv none 0 0 none 0 0 0) 25)).alloc (Obj.cells #[] 9)) (w.heap.size + 2) (some ⟨w.heap.size + 1 + 1, 0, none⟩) 0 0 [] := RS.empty (by rw [show w.heap.size + 1 + 1 = w.heap.size + 2 from rfl, ← sz1]; exact Nm.Own.new _ 9 #[]) (Nat.le_refl _)
  have h1 := H0.out.b.below ob1.b
  have d0 := ob1.o.cell 0
  simp only [List.getElem?_toArray, List.getElem?_cons_zero, List.getElem?_cons_succ] at d0
  clear h hk hok gb ob sz1
  go_enter Try.func21, Try.ntmps21
  go_wp2_with (at_builtin; refine app_all rfl _ _ rfl (w.heap.size + 2) _ _ rfl r0 _ _ _ _ rfl h1 (by simp) ?_)
  intro A1 c1 w2 hr2 hb2
  have ob2 := ob1.low hb2
  clear r0 h1 d0 ob1 hb2
  go_wp2_with fail
  go_loopw [6, 7, 8] (fun i _ _ wr => ∃ q : Nat, q ≤ m ∧ i = .int .i64 q ∧ B2 w (dv A n c A' m c' L) (dv none 0 0 none 0 0 0) wr ∧ RS wr (w.heap.size + 2) A1 n c1 (Dm.crashM d.B K 0 (d.P.take q))) (fun i _ _ _ => m - (intOf i).toNat)
  case atStart => exact ⟨0, Nat.zero_le _, rfl, ob2, hr2⟩
  case round =>
    clear ob2 hr2
    obtain ⟨q, hq, rfl, ob4, hr4⟩ := hrel
    have d1 := ob4.o.cell 1
    simp only [List.getElem?_toArray, List.getElem?_cons_zero, List.getElem?_cons_succ] at d1
    by_cases hlq : q < m
    · obtain ⟨b', off', rfl, hc⟩ := (H0.out.p.below ob4.b).c (by omega)
      obtain ⟨c1', c2'⟩ := hc q (by omega)
      have hkz := HK.out.below ob4.b
      have hlq' : (q : Int) < (m : Int) := by omega
      have HT := Lib.hid (crash_step (B := d.B) (K := K) (P := d.P) (q := q) (by omega))
      have hwm := HO.out.p (wnth d.P q) (Dm.wnth_mem (by omega))
      have gb := grow wr (Obj.cells #[.int .i64 (wnth d.P q).1, .string (wnth d.P q).2] 47)
      have ob6 := ob4.below gb
      have hR := hr4.below gb
      have o48 := Nm.Own.new wr 47 #[.int .i64 (wnth d.P q).1, .string (wnth d.P q).2]
      have e0 := o48.cell 0
      have e1 := o48.cell 1
      simp only [List.getElem?_toArray, List.getElem?_cons_zero, List.getElem?_cons_succ] at e0 e1
      have hso := fun k (hk : k < n) => crash_size HO.out K q (k := k) (by omega)
      clear hc ob4 hr4 gb
      generalize wnth d.P q = x at *
      obtain ⟨xi, xs⟩ := x
      dsimp only at *
      obtain ⟨⟨hx0, hx1⟩, hsx⟩ := hwm
      obtain ⟨k, rfl⟩ := Int.eq_ofNat_of_zero_le hx0
      rw [Int.toNat_natCast] at HT
      have hk : k < n := by omega
      have hk' : (k : Int) < (n : Int) := by omega
      replace hso := hso k hk
      generalize hold : nth (Dm.crashM d.B K 0 (d.P.take q)) k = old at *
      obtain ⟨p, hp⟩ : ∃ p, Dm.pickM K q = p := ⟨_, rfl⟩
      have hp3 := Dm.pick_lt K q
      rw [hp] at hp3
      have hpk : ∀ h : q < e, IntKind.i64.wrap ((K.getD q 0).tmod 3 + 3) = (K.getD q 0).tmod 3 + 3 ∧ ((K.getD q 0).tmod 3 + 3).tmod 3 = (p : Int) := fun h => by
        refine ⟨IntWalk.i64_in _ ?_, by rw [← hp]; exact pick_at (by rw [HK.out.len]; exact h)⟩
        have := tmod3 (K.getD q 0)
        omega
      have hpz : ¬ q < e → p = 0 := fun h => by
        rw [← hp]
        unfold Dm.pickM
        rw [if_neg (by rw [HK.out.len]; exact h)]
      rw [hp] at HT
      clear hx0 hx1 hp
      have HPK := Lib.hid hpk
      have HPZ := Lib.hid hpz
      clear hpk hpz
      obtain ⟨g, rfl, hg1, hg2⟩ : ∃ g, A1 = some ⟨g, 0, none⟩ ∧ w.heap.size + 2 ≤ g ∧ g < (wr.alloc (Obj.cells #[.int .i64 (k : Int), .string xs] 47)).heap.size := by
        rcases hR.form with ⟨_, h0, _⟩ | h0
        · omega
        · exact h0
      clear hg2
      by_cases hqe : q < e
      · obtain ⟨wp1, wp2⟩ := HPK.out hqe
        obtain ⟨b2, off2, rfl, hc2⟩ := hkz.c (by omega)
        have ce := hc2 q hqe
        have hqe' : (q : Int) < (e : Int) := by omega
        clear hc2 hkz
        generalize K.getD q 0 = x at *
        obtain rfl | rfl | rfl : p = 0 ∨ p = 1 ∨ p = 2 := by omega
        · have wp2 : (x.tmod 3 + 3).tmod 3 = (0 : Int) := wp2
          replace HT := Lib.hid (HT.out.trans (show _ = Dm.crashM d.B K 0 (d.P.take q) by rw [← hold]; exact setI_self (by rw [Dm.crash_length]; omega)))
          go_wp2_with fail
          go_roundw
          case rel => exact ⟨q + 1, by omega, by go_num, ob6, by rw [HT.out]; exact hR⟩
          case measure => simp [intOf]; omega
        · have wp2 : (x.tmod 3 + 3).tmod 3 = (1 : Int) := wp2
          have cc := RS.cell hR hk
          have cf := RS.frozen hR k
          rw [hold] at cc
          have s7 := St.cellOf (wr.alloc (Obj.cells #[.int .i64 (k : Int), .string xs] 47)) g k (.string xs)
          have hR2 := RS.put hR k xs
          have ob7 := ob6.st s7 hg1
          go_wp2_with fail
          go_roundw
          case rel => exact ⟨q + 1, by omega, by go_num, ob7, by rw [HT.out]; exact hR2⟩
          case measure => simp [intOf]; omega
        · have wp2 : (x.tmod 3 + 3).tmod 3 = (2 : Int) := wp2
          have HB2 := Lib.hid (show Dm.become 2 old xs = xs.extract 0 64 ++ old.extract 64 128 by rw [← hso]; rfl)
          have i1 : (old.size : Int) = 128 := by omega
          have i2 : (xs.size : Int) = 128 := by omega
          have z1 : (xs.extract 0 64).size = 64 := by rw [ByteArray.size_extract]; omega
          have z2 : (old.extract 64 128).size = 64 := by rw [ByteArray.size_extract]; omega
          have y' : ¬ 9223372036854775807 < (xs.extract 0 64).size + (old.extract 64 128).size := by omega
          clear z1 z2
          have hS : Rx wr.heap.size k xs (wr.alloc (Obj.cells #[.int .i64 (k : Int), .string xs] 47)) := ⟨e0, e1⟩
          go_wp2_with fail
          refine wp_region_held_drew (S := Rx wr.heap.size k xs) (by kernel_rfl) (hS.dr (Dr.refl _).drew) (fun hHeld => ?_)
          replace hR := RS.dr hR (Dr.refl (wr.alloc (Obj.cells #[.int .i64 (k : Int), .string xs] 47))).drew
          replace ob6 := ob6.dr (Dr.refl (wr.alloc (Obj.cells #[.int .i64 (k : Int), .string xs] 47))).drew
          replace o48 := Own.dr o48 (Dr.refl (wr.alloc (Obj.cells #[.int .i64 (k : Int), .string xs] 47))).drew
          clear hS e0 e1
          generalize (wr.alloc (Obj.cells #[.int .i64 (k : Int), .string xs] 47)).drew = W6 at *
          refine wpAnyH_take (i := 0) (oi := { dst := some 46, op := Op.move (Operand.tmp 5), type := _, pos := _, after := _, guard := _ }) (v := ?_) rfl (by kernel_rfl) (by kernel_rfl) (by kernel_rfl) (fun _ _ _ h => h) (Or.inl ⟨by rfl, ?_⟩) hHeld ?_
          rotate_left
          · intro wq hSw
            go_simp
            rfl
          try simp only [Act.put, List.setIfInBounds_toArray, List.set_cons_zero, List.set_cons_succ]
          refine wpAnyH_take (i := 1) (oi := { dst := some 47, op := Op.fieldAddr 47 (Operand.tmp 8) 0, type := _, pos := _, after := _, guard := _ }) (v := ?_) rfl (by kernel_rfl) (by kernel_rfl) (by kernel_rfl) (fun _ _ _ h => h) (Or.inl ⟨by rfl, ?_⟩) hHeld ?_
          rotate_left
          · intro wq hSw
            go_simp
            rfl
          try simp only [Act.put, List.setIfInBounds_toArray, List.set_cons_zero, List.set_cons_succ]
          refine wpAnyH_take (i := 2) (oi := { dst := some 48, op := Op.load 3 (Operand.tmp 47), type := _, pos := _, after := _, guard := _ }) (v := ?_) rfl (by kernel_rfl) (by kernel_rfl) (by kernel_rfl) (fun _ _ _ h => h) (Or.inl ⟨by rfl, ?_⟩) hHeld ?_
          rotate_left
          · intro wq hSw
            obtain ⟨r1, r2⟩ := hSw
            go_simp
            rfl
          try simp only [Act.put, List.setIfInBounds_toArray, List.set_cons_zero, List.set_cons_succ]
          refine wpAnyH_take (i := 3) (oi := { dst := some 49, op := Op.fieldAddr 47 (Operand.tmp 8) 1, type := _, pos := _, after := _, guard := _ }) (v := ?_) rfl (by kernel_rfl) (by kernel_rfl) (by kernel_rfl) (fun _ _ _ h => h) (Or.inl ⟨by rfl, ?_⟩) hHeld ?_
          rotate_left
          · intro wq hSw
            go_simp
            rfl
          try simp only [Act.put, List.setIfInBounds_toArray, List.set_cons_zero, List.set_cons_succ]
          refine wpAnyH_take (i := 4) (oi := { dst := some 50, op := Op.load 9 (Operand.tmp 49), type := _, pos := _, after := _, guard := _ }) (v := ?_) rfl (by kernel_rfl) (by kernel_rfl) (by kernel_rfl) (fun _ _ _ h => h) (Or.inl ⟨by rfl, ?_⟩) hHeld ?_
          rotate_left
          · intro wq hSw
            obtain ⟨r1, r2⟩ := hSw
            go_simp
            rfl
          try simp only [Act.put, List.setIfInBounds_toArray, List.set_cons_zero, List.set_cons_succ]
          refine wpAnyH_take (i := 5) (oi := { dst := some 51, op := Op.slice 9 (Operand.tmp 50) none (some (Operand.const (Value.int IntKind.i64 64))) none, type := _, pos := _, after := _, guard := _ }) (v := ?_) rfl (by kernel_rfl) (by kernel_rfl) (by kernel_rfl) (fun _ _ _ h => h) (Or.inl ⟨by rfl, ?_⟩) hHeld ?_
          rotate_left
          · intro wq hSw
            go_simp
            rfl
          try simp only [Act.put, List.setIfInBounds_toArray, List.set_cons_zero, List.set_cons_succ]
          refine wpAnyH_take (i := 6) (oi := { dst := some 52, op := Op.move (Operand.tmp 5), type := _, pos := _, after := _, guard := _ }) (v := ?_) rfl (by kernel_rfl) (by kernel_rfl) (by kernel_rfl) (fun _ _ _ h => h) (Or.inl ⟨by rfl, ?_⟩) hHeld ?_
          rotate_left
          · intro wq hSw
            go_simp
            rfl
          try simp only [Act.put, List.setIfInBounds_toArray, List.set_cons_zero, List.set_cons_succ]
          refine wpAnyH_take (i := 7) (oi := { dst := some 53, op := Op.fieldAddr 47 (Operand.tmp 8) 0, type := _, pos := _, after := _, guard := _ }) (v := ?_) rfl (by kernel_rfl) (by kernel_rfl) (by kernel_rfl) (fun _ _ _ h => h) (Or.inl ⟨by rfl, ?_⟩) hHeld ?_
          rotate_left
          · intro wq hSw
            go_simp
            rfl
          try simp only [Act.put, List.setIfInBounds_toArray, List.set_cons_zero, List.set_cons_succ]
          refine wpAnyH_take (i := 8) (oi := { dst := some 54, op := Op.load 3 (Operand.tmp 53), type := _, pos := _, after := _, guard := _ }) (v := ?_) rfl (by kernel_rfl) (by kernel_rfl) (by kernel_rfl) (fun _ _ _ h => h) (Or.inl ⟨by rfl, ?_⟩) hHeld ?_
          rotate_left
          · intro wq hSw
            obtain ⟨r1, r2⟩ := hSw
            go_simp
            rfl
          try simp only [Act.put, List.setIfInBounds_toArray, List.set_cons_zero, List.set_cons_succ]
          refine wpAnyH_take (i := 9) (oi := { dst := some 55, op := Op.indexAddr 22 (Operand.tmp 52) (Operand.tmp 54), type := _, pos := _, after := _, guard := _ }) (v := ?_) rfl (by kernel_rfl) (by kernel_rfl) (by kernel_rfl) (fun _ _ _ h => h) (Or.inl ⟨by rfl, ?_⟩) hHeld ?_
          rotate_left
          · intro wq hSw
            go_simp
            rfl
          try simp only [Act.put, List.setIfInBounds_toArray, List.set_cons_zero, List.set_cons_succ]
          refine wpAnyH_ready (rs := [10]) (by kernel_rfl) (by simp) ?_
          refine AllReadyH.cons (o := { dst := some 56, op := Op.load 9 (Operand.tmp 55), type := _, pos := _, after := _, guard := _ }) rfl (fun KK hKK => ?_) AllReadyH.nil
          have hKS := Lib.hid hKK
          clear hKK
          have ck := RS.cell hR hk
          rw [hold] at ck
          go_simp
          refine hKS.out.out _ _ hHeld (fun hHeld => ?_)
          clear hKS KK ck
          try simp only [Act.put, List.setIfInBounds_toArray, List.set_cons_zero, List.set_cons_succ]
          refine wpAnyH_take (i := 11) (oi := { dst := some 57, op := Op.slice 9 (Operand.tmp 56) (some (Operand.const (Value.int IntKind.i64 64))) none none, type := _, pos := _, after := _, guard := _ }) (v := ?_) rfl (by kernel_rfl) (by kernel_rfl) (by kernel_rfl) (fun _ _ _ h => h) (Or.inl ⟨by rfl, ?_⟩) hHeld ?_
          rotate_left
          · intro wq hSw
            go_simp
            rfl
          try simp only [Act.put, List.setIfInBounds_toArray, List.set_cons_zero, List.set_cons_succ]
          refine wpAnyH_take (i := 12) (oi := { dst := some 58, op := Op.binOp BinOp.add 9 (Operand.tmp 51) (Operand.tmp 57) 9, type := _, pos := _, after := _, guard := _ }) (v := ?_) rfl (by kernel_rfl) (by kernel_rfl) (by kernel_rfl) (fun _ _ _ h => h) (Or.inl ⟨by rfl, ?_⟩) hHeld ?_
          rotate_left
          · intro wq hSw
            go_simp
            rfl
          try simp only [Act.put, List.setIfInBounds_toArray, List.set_cons_zero, List.set_cons_succ]
          refine wpAnyH_take (i := 13) (oi := { dst := some 59, op := Op.indexAddr 22 (Operand.tmp 46) (Operand.tmp 48), type := _, pos := _, after := _, guard := _ }) (v := ?_) rfl (by kernel_rfl) (by kernel_rfl) (by kernel_rfl) (fun _ _ _ h => h) (Or.inl ⟨by rfl, ?_⟩) hHeld ?_
          rotate_left
          · intro wq hSw
            go_simp
            rfl
          try simp only [Act.put, List.setIfInBounds_toArray, List.set_cons_zero, List.set_cons_succ]
          refine wpAnyH_ready (rs := [14]) (by kernel_rfl) (by simp) ?_
          refine AllReadyH.cons (o := { dst := none, op := Op.store 9 (Operand.tmp 59) (Operand.tmp 58), type := _, pos := _, after := _, guard := _ }) rfl (fun KK hKK => ?_) AllReadyH.nil
          have hKS := Lib.hid hKK
          clear hKK
          have f0 := RS.frozen hR k
          have c0 := RS.cell hR hk
          go_simp
          have s7 := St.cellOf W6 g k (.string (xs.extract 0 64 ++ old.extract 64 128))
          have hR2 := RS.put hR k (xs.extract 0 64 ++ old.extract 64 128)
          have n3 : wr.heap.size ≠ g := fun e => RS.ne hR o48 (by decide) (by rw [e]; rfl)
          have ob7 := ob6.st s7 hg1
          refine hKS.out.out _ _ (hHeld.st s7 n3) (fun hHeld => ?_)
          clear hKS KK f0 c0 s7 hR ob6 o48 n3
          generalize World.setCell W6 ⟨g, k, none⟩ (.string (xs.extract 0 64 ++ old.extract 64 128)) = W14 at *
          try simp only [Act.put, List.setIfInBounds_toArray, List.set_cons_zero, List.set_cons_succ]
          refine wpAnyH_done (by kernel_rfl) ?_ _
          go_wp2_with fail
          go_roundw
          case rel => exact ⟨q + 1, by omega, by go_num, ob7, by rw [HT.out, HB2.out]; exact hR2⟩
          case measure => simp [intOf]; omega
      · obtain rfl := HPZ.out hqe
        have hqe' : ¬ (q : Int) < (e : Int) := by omega
        replace HT := Lib.hid (HT.out.trans (show _ = Dm.crashM d.B K 0 (d.P.take q) by rw [← hold]; exact setI_self (by rw [Dm.crash_length]; omega)))
        go_wp2_with fail
        go_roundw
        case rel => exact ⟨q + 1, by omega, by go_num, ob6, by rw [HT.out]; exact hR⟩
        case measure => simp [intOf]; omega
    · obtain rfl : q = m := by omega
      have hz : d.P.take q = d.P := List.take_of_length_le (by omega)
      rw [hz] at hr4
      go_wp2_with (refine sto25 (A := A1) (n := n) (c := c1) (A' := none) (m := 0) (c' := 0) (l := -1) rfl rfl rfl rfl ob4.q rfl ?_)
      intro w9 q9 s9
      go_wp2_with fail
      exact res25 rfl rfl q9 rfl ⟨⟨A1, c1, rfl, (s9.rs hr4 (by omega)).mono (by omega)⟩, (ob4.set q9 s9).b⟩
end Dw
end Go.Proofs.Ytmolbliooaofbaa
