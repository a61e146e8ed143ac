/-
  THE WALK of the chapter's example.
-/
import Derived.Test.YtmolbliooaofbaaDj
import Derived.Deep.CutRange
namespace Go.Proofs.Ytmolbliooaofbaa
set_option linter.unusedVariables false
set_option maxRecDepth 100000
set_option linter.unusedSimpArgs false
open Go.RowKit
namespace Dw
open _root_.Go.Proofs.Ytmolbliooaofbaa.Nm
open Dm (Wr wnth)
theorem oB_size : Dm.oB.size = 128 := by decide +kernel
theorem zB_size : Dm.zB.size = 128 := by decide +kernel
theorem zB_half : Dm.zB.extract 64 Dm.zB.size = zs 64 := by decide +kernel
def D0 : Dm.Dr := ⟨[Dm.zB, Dm.zB], [], -1⟩
def D1 : Dm.Dr := ⟨[Dm.zB, Dm.zB], [(0, Dm.oB)], -1⟩
theorem new_two : Dm.newM 2 = (D0, 0) := rfl
theorem put_one : Dm.putM D0 0 Dm.oB = (D1, 0) := by
  unfold Dm.putM
  rw [if_pos (by decide), if_pos oB_size, if_neg (by decide)]
  rfl
theorem ok_one : Dm.Ok D1 :=
  ⟨by decide, (fun t ht => by
    simp [D1] at ht
    rw [ht]; exact zB_size), fun w hw => by
    simp [D1] at hw
    subst hw
    exact ⟨by decide, oB_size⟩⟩
theorem crash_one : Dm.crashM D1.B [5] 0 D1.P = [Dm.oB.extract 0 64 ++ zs 64, Dm.zB] := by
  show [Dm.oB.extract 0 64 ++ Dm.zB.extract 64 Dm.zB.size, Dm.zB] = _
  rw [zB_half]
theorem dv_str {A : Option Addr} {n c : Nat} {A' : Option Addr} {m c' : Nat} {l : Int} {i : Nat} {s : ByteArray} (h : (dv A n c A' m c' l)[i]? = some (.string s)) : False := by
  match i, h with
  | 0, h => simp at h
  | 1, h => simp at h
  | 2, h => simp at h
  | i + 3, h => simp at h
/-- a drive that is read stays, when a box of another drive is stored -/
theorem Dz.st {w w' : World} {A : Option Addr} {n c : Nat} {A' : Option Addr} {m c' : Nat} {d : Dm.Dr} {g : Nat} {B : Option Addr} {k e : Nat} {B' : Option Addr} {k' e' : Nat} {l : Int}
    (h : Dz w A n c A' m c' d) (ho : Nm.Own w g 25 (dv B k e B' k' e' l)) (hs : St g w w') : Dz w' A n c A' m c' d := by
  refine ⟨⟨⟨h.b.t.1, fun h0 => ?_⟩, h.b.z, h.b.m⟩, ⟨h.p.len, fun h0 => ?_, h.p.z, h.p.m⟩, h.l⟩
  · obtain ⟨b, off, e1, hc⟩ := h.b.t.2 h0
    have hne : b ≠ g := fun e => by
      subst e
      have := hc 0 h0
      rw [ho.cell] at this
      exact dv_str this
    exact ⟨b, off, e1, fun i hi => (World.cell?_of_block (w := w) (a := ⟨b, off + i, none⟩) (hs.block _ hne)).trans (hc i hi)⟩
  · obtain ⟨b, off, e1, hc⟩ := h.p.c h0
    have hne : b ≠ g := fun e => by
      subst e
      have := (hc 0 (by rw [h.p.len]; exact h0)).2
      rw [ho.cell] at this
      exact dv_str this
    exact ⟨b, off, e1, hc.st hs hne⟩
/-- what the last test reads -/
structure Fx (w : World) (G b off c : Nat) (T Z : ByteArray) (wq : World) : Prop where
  d : wq.cell? ⟨G, 0, none⟩ = some (.slice (some ⟨b, off, none⟩) 2 c)
  r0 : wq.cell? ⟨b, off, none⟩ = some (.string T)
  r1 : wq.cell? ⟨b, off + 1, none⟩ = some (.string Z)
  l : Below w.heap.size w wq
theorem Fx.below {w wq w1 : World} {G b off c : Nat} {T Z : ByteArray} (h : Fx w G b off c T Z wq) (k : Below wq.heap.size wq w1) : Fx w G b off c T Z w1 :=
  ⟨(k.cell (World.block_lt_of_cell? _ _ h.d)).trans h.d, (k.cell (World.block_lt_of_cell? _ _ h.r0)).trans h.r0, (k.cell (World.block_lt_of_cell? _ _ h.r1)).trans h.r1, h.l.trans (k.mono h.l.size)⟩
theorem Fx.drew {w wq : World} {G b off c : Nat} {T Z : ByteArray} (h : Fx w G b off c T Z wq) : Fx w G b off c T Z wq.drew := ⟨h.d, h.r0, h.r1, h.l.drew⟩
theorem st25 {o : Oper} {a : Act} {w : World} {K : Act → World → Prop} {Q : Exit → Act → World → Prop} {ops : Array Oper} {E : Prop} (hgd : o.guard = none) (x y : Operand) {g : Nat} {A : Option Addr} {n c : Nat} {A' : Option Addr} {m c' : Nat} {l : Int} {cs : Array Value}
    (ho : o.op = .store 25 x y) (hx : a.eval x = .pointer (some ⟨g, 0, none⟩)) (hy : a.eval y = .agg (dv A n c A' m c' l)) (hg : Nm.Own w g 25 cs) (hs : cs.size = 3)
    (h : K (a.put o.dst undef) (w.setRow g (dv A n c A' m c' l))) : if Region.wanted o (yielded ops a.tmps) = true then Oper.wp Try.prog o a w K Q else E := by
  have hw : Region.wanted o (yielded ops a.tmps) = true := by simp [Region.wanted, hgd]
  rw [if_pos hw]
  exact wp_store_row 25 x y ho g _ hx hy 25 cs hg info25 (by rw [hs]; rfl) (dv_one ..) h
set_option maxHeartbeats 2000000 in
theorem fixed_any (w : World) : Calls Try.prog 10 #[] w fun e w' => e = .returned (.bool true) ∧ Below w.heap.size w w' := by
  have hnew := fun w => new_any 2 w (by decide) (by decide)
  rw [new_two] at hnew
  go_enter Try.func10, Try.ntmps10
  go_wp2_with fail
  refine (hnew _).mono ?_
  rintro e w1 ⟨⟨A, n, c, A', m, c', rfl, hz⟩, hb⟩
  clear hnew
  obtain rfl : m = 0 := hz.p.len.symm
  have gb := grow w1 (Obj.cells (dv A n c A' 0 c' (-1)) 25)
  have od := Nm.Own.new w1 25 (dv A n c A' 0 c' (-1))
  replace hz := hz.below gb
  replace hb := hb.trans (gb.mono hb.size)
  clear gb
  have hD0 : D0.left = -1 := rfl
  rw [hD0]
  go_upto_region 2 with fail
  generalize w1.alloc (Obj.cells (dv A n c A' 0 c' (-1)) 25) = V at *
  generalize w1.heap.size = G1 at *
  go_cut [3, 4] from 10 to 15 (fun s3 s4 wc => ∃ (G : Nat) (A : Option Addr) (n c : Nat) (A' : Option Addr) (m c' : Nat), s3 = .pointer (some ⟨G, 0, none⟩) ∧ s4 = .int .i64 0 ∧ Nm.Own wc G 25 (dv A n c A' m c' (-1)) ∧ Dz wc A n c A' m c' D1 ∧ Below w.heap.size w wc)
  case first =>
    refine wp_region_held_drew (S := fun w' => Below w.heap.size w w') (by kernel_rfl) hb.drew (fun hHeld => ?_)
    replace hb := hb.drew
    replace od := Own.dr od (Dr.refl V).drew
    replace hz := hz.below (b := V.drew) ((Below.refl V.heap.size V).drew)
    generalize V.drew = V0 at *
    refine wpAnyH_ready (rs := [0, 1, 6]) (by kernel_rfl) (by simp) ?_
    refine AllReadyH.cons (o := { dst := some 11, op := Op.load 25 (Operand.tmp 1), type := _, pos := _, after := _, guard := _ }) rfl (fun KK hKK => ?_) ?_
    · have hKS := Lib.hid hKK
      clear hKK
      have d0 := od.cell 0
      have d1 := od.cell 1
      have d2 := od.cell 2
      simp only [List.getElem?_toArray, List.getElem?_cons_zero, List.getElem?_cons_succ] at d0 d1 d2
      go_simp
      refine hKS.out.out _ _ hb (fun hHeld => ?_)
      clear hKS KK d0 d1 d2
      try simp only [Act.put, List.setIfInBounds_toArray, List.set_cons_zero, List.set_cons_succ]
      refine wpAnyH_ready (rs := [1, 6]) (by kernel_rfl) (by simp) ?_
      refine AllReadyH.cons (o := { dst := some 12, op := Op.call { callee := Callee.value (Operand.func 24), args := #[], argTypes := #[] }, type := _, pos := _, after := _, guard := _ }) rfl (fun KK hKK => ?_) ?_
      · have hKS := Lib.hid hKK
        clear hKK
        go_simp
        refine (ones_any _).mono ?_
        rintro e w1 ⟨rfl, hx⟩
        go_wp2_with fail
        try replace od := od.below hx
        try replace hz := hz.below hx
        try replace og := og.below hx
        try replace hp := hp.below hx
        replace hb := hb.trans (hx.mono hb.size)
        refine hKS.out.out _ _ hb (fun hHeld => ?_)
        clear hKS KK hx
        try simp only [Act.put, List.setIfInBounds_toArray, List.set_cons_zero, List.set_cons_succ]
        refine wpAnyH_ready (rs := [2, 6]) (by kernel_rfl) (by simp) ?_
        refine AllReadyH.cons (o := { dst := some 13, op := Op.call { callee := Callee.value (Operand.func 16), args := #[Operand.tmp 11, Operand.const (Value.int IntKind.i64 0), Operand.tmp 12], argTypes := #[25, 3, 9] }, type := _, pos := _, after := _, guard := _ }) rfl (fun KK hKK => ?_) ?_
        · have hKS := Lib.hid hKK
          clear hKK
          have hput := put_any A n c A' 0 c' D0 0 Dm.oB _ hz (by omega)
          rw [put_one] at hput
          go_simp
          refine hput.mono ?_
          rintro e w2 ⟨⟨A2, n2, c2, E2, m2, f2, rfl, hp⟩, hx⟩
          clear hput
          go_wp2_with fail
          try replace od := od.below hx
          try replace hz := hz.below hx
          try replace og := og.below hx
          replace hb := hb.trans (hx.mono hb.size)
          refine hKS.out.out _ _ hb (fun hHeld => ?_)
          clear hKS KK hx
          try simp only [Act.put, List.setIfInBounds_toArray, List.set_cons_zero, List.set_cons_succ]
          refine wpAnyH_take (i := 3) (oi := { dst := some 10, op := Op.move (Operand.tmp 13), type := _, pos := _, after := _, guard := _ }) (v := ?_) rfl (by kernel_rfl) (by kernel_rfl) (by kernel_rfl) (fun _ _ _ h => h) (Or.inl ⟨by rfl, ?_⟩) hHeld ?_
          rotate_left
          · intro wq hSw
            go_simp
            rfl
          try simp only [Act.put, List.setIfInBounds_toArray, List.set_cons_zero, List.set_cons_succ]
          refine wpAnyH_take (i := 4) (oi := { dst := some 14, op := Op.extract (Operand.tmp 10) 0, type := _, pos := _, after := _, guard := _ }) (v := ?_) rfl (by kernel_rfl) (by kernel_rfl) (by kernel_rfl) (fun _ _ _ h => h) (Or.inl ⟨by rfl, ?_⟩) hHeld ?_
          rotate_left
          · intro wq hSw
            go_simp
            rfl
          try simp only [Act.put, List.setIfInBounds_toArray, List.set_cons_zero, List.set_cons_succ]
          refine wpAnyH_take (i := 5) (oi := { dst := some 15, op := Op.extract (Operand.tmp 10) 1, type := _, pos := _, after := _, guard := _ }) (v := ?_) rfl (by kernel_rfl) (by kernel_rfl) (by kernel_rfl) (fun _ _ _ h => h) (Or.inl ⟨by rfl, ?_⟩) hHeld ?_
          rotate_left
          · intro wq hSw
            go_simp
            rfl
          try simp only [Act.put, List.setIfInBounds_toArray, List.set_cons_zero, List.set_cons_succ]
          refine wpAnyH_ready (rs := [6]) (by kernel_rfl) (by simp) ?_
          refine AllReadyH.cons (o := { dst := some 3, op := Op.alloc 25, type := _, pos := _, after := _, guard := _ }) rfl (fun KK hKK => ?_) AllReadyH.nil
          have hKS := Lib.hid hKK
          clear hKK
          have hx := grow w2 (Obj.cells (dv none 0 0 none 0 0 0) 25)
          have og := Nm.Own.new w2 25 (dv none 0 0 none 0 0 0)
          have hg3 := hb.size
          go_simp
          try replace od := od.below hx
          try replace hz := hz.below hx
          try replace hp := hp.below hx
          replace hb := hb.trans (hx.mono hb.size)
          refine hKS.out.out _ _ hb (fun hHeld => ?_)
          clear hKS KK hx
          generalize World.alloc w2 (Obj.cells (dv none 0 0 none 0 0 0) 25) = V6 at *
          generalize w2.heap.size = g3 at *
          try simp only [Act.put, List.setIfInBounds_toArray, List.set_cons_zero, List.set_cons_succ]
          refine wpAnyH_ready (rs := [7]) (by kernel_rfl) (by simp) ?_
          refine AllReadyH.cons (o := { dst := none, op := Op.store 25 (Operand.tmp 3) (Operand.tmp 14), type := _, pos := _, after := _, guard := _ }) rfl (fun KK hKK => ?_) AllReadyH.nil
          have hKS := Lib.hid hKK
          clear hKK
          have s7 := St.row V6 g3 (dv A2 n2 c2 E2 m2 f2 (-1))
          have o7 : Nm.Own (V6.setRow g3 (dv A2 n2 c2 E2 m2 f2 (-1))) g3 25 (dv A2 n2 c2 E2 m2 f2 (-1)) := setRow_heap V6 g3 _ _ 25 (0, 0) og
          have hb7 := s7.below hb hg3
          refine st25 (A := A2) (n := n2) (c := c2) (A' := E2) (m := m2) (c' := f2) (l := -1) rfl (.tmp 3) (.tmp 14) rfl (by simp [Act.eval, Act.put]) (by simp [Act.eval, Act.put, D1]) og rfl ?_
          have hp7 := hp.st og s7
          refine hKS.out.out _ _ hb7 (fun hHeld => ?_)
          clear hKS KK s7
          try simp only [Act.put, List.setIfInBounds_toArray, List.set_cons_zero, List.set_cons_succ]
          refine wpAnyH_take (i := 8) (oi := { dst := some 4, op := Op.assign (Operand.tmp 15), type := _, pos := _, after := _, guard := _ }) (v := ?_) rfl (by kernel_rfl) (by kernel_rfl) (by kernel_rfl) (fun _ _ _ h => h) (Or.inl ⟨by rfl, ?_⟩) hHeld ?_
          rotate_left
          · intro wq hSw
            go_simp
            rfl
          try simp only [Act.put, List.setIfInBounds_toArray, List.set_cons_zero, List.set_cons_succ]
          refine wpAnyH_done (by kernel_rfl) ?_ _
          go_wp2_with fail
          go_meet
          case rel => exact ⟨g3, A2, n2, c2, E2, m2, f2, rfl, rfl, o7, hp7, hb7⟩
        refine AllReadyH.cons (o := { dst := some 3, op := Op.alloc 25, type := _, pos := _, after := _, guard := _ }) rfl (fun KK hKK => ?_) AllReadyH.nil
        · have hKS := Lib.hid hKK
          clear hKK
          have hx := grow w1 (Obj.cells (dv none 0 0 none 0 0 0) 25)
          have og := Nm.Own.new w1 25 (dv none 0 0 none 0 0 0)
          have hg3 := hb.size
          go_simp
          try replace od := od.below hx
          try replace hz := hz.below hx
          try replace hp := hp.below hx
          replace hb := hb.trans (hx.mono hb.size)
          refine hKS.out.out _ _ hb (fun hHeld => ?_)
          clear hKS KK hx
          generalize World.alloc w1 (Obj.cells (dv none 0 0 none 0 0 0) 25) = V6 at *
          generalize w1.heap.size = g3 at *
          try simp only [Act.put, List.setIfInBounds_toArray, List.set_cons_zero, List.set_cons_succ]
          refine wpAnyH_ready (rs := [2]) (by kernel_rfl) (by simp) ?_
          refine AllReadyH.cons (o := { dst := some 13, op := Op.call { callee := Callee.value (Operand.func 16), args := #[Operand.tmp 11, Operand.const (Value.int IntKind.i64 0), Operand.tmp 12], argTypes := #[25, 3, 9] }, type := _, pos := _, after := _, guard := _ }) rfl (fun KK hKK => ?_) AllReadyH.nil
          have hKS := Lib.hid hKK
          clear hKK
          have hput := put_any A n c A' 0 c' D0 0 Dm.oB _ hz (by omega)
          rw [put_one] at hput
          go_simp
          refine hput.mono ?_
          rintro e w2 ⟨⟨A2, n2, c2, E2, m2, f2, rfl, hp⟩, hx⟩
          clear hput
          go_wp2_with fail
          try replace od := od.below hx
          try replace hz := hz.below hx
          try replace og := og.below hx
          replace hb := hb.trans (hx.mono hb.size)
          refine hKS.out.out _ _ hb (fun hHeld => ?_)
          clear hKS KK hx
          try simp only [Act.put, List.setIfInBounds_toArray, List.set_cons_zero, List.set_cons_succ]
          refine wpAnyH_take (i := 3) (oi := { dst := some 10, op := Op.move (Operand.tmp 13), type := _, pos := _, after := _, guard := _ }) (v := ?_) rfl (by kernel_rfl) (by kernel_rfl) (by kernel_rfl) (fun _ _ _ h => h) (Or.inl ⟨by rfl, ?_⟩) hHeld ?_
          rotate_left
          · intro wq hSw
            go_simp
            rfl
          try simp only [Act.put, List.setIfInBounds_toArray, List.set_cons_zero, List.set_cons_succ]
          refine wpAnyH_take (i := 4) (oi := { dst := some 14, op := Op.extract (Operand.tmp 10) 0, type := _, pos := _, after := _, guard := _ }) (v := ?_) rfl (by kernel_rfl) (by kernel_rfl) (by kernel_rfl) (fun _ _ _ h => h) (Or.inl ⟨by rfl, ?_⟩) hHeld ?_
          rotate_left
          · intro wq hSw
            go_simp
            rfl
          try simp only [Act.put, List.setIfInBounds_toArray, List.set_cons_zero, List.set_cons_succ]
          refine wpAnyH_take (i := 5) (oi := { dst := some 15, op := Op.extract (Operand.tmp 10) 1, type := _, pos := _, after := _, guard := _ }) (v := ?_) rfl (by kernel_rfl) (by kernel_rfl) (by kernel_rfl) (fun _ _ _ h => h) (Or.inl ⟨by rfl, ?_⟩) hHeld ?_
          rotate_left
          · intro wq hSw
            go_simp
            rfl
          try simp only [Act.put, List.setIfInBounds_toArray, List.set_cons_zero, List.set_cons_succ]
          refine wpAnyH_ready (rs := [7]) (by kernel_rfl) (by simp) ?_
          refine AllReadyH.cons (o := { dst := none, op := Op.store 25 (Operand.tmp 3) (Operand.tmp 14), type := _, pos := _, after := _, guard := _ }) rfl (fun KK hKK => ?_) AllReadyH.nil
          have hKS := Lib.hid hKK
          clear hKK
          have s7 := St.row w2 g3 (dv A2 n2 c2 E2 m2 f2 (-1))
          have o7 : Nm.Own (w2.setRow g3 (dv A2 n2 c2 E2 m2 f2 (-1))) g3 25 (dv A2 n2 c2 E2 m2 f2 (-1)) := setRow_heap w2 g3 _ _ 25 (0, 0) og
          have hb7 := s7.below hb hg3
          refine st25 (A := A2) (n := n2) (c := c2) (A' := E2) (m := m2) (c' := f2) (l := -1) rfl (.tmp 3) (.tmp 14) rfl (by simp [Act.eval, Act.put]) (by simp [Act.eval, Act.put, D1]) og rfl ?_
          have hp7 := hp.st og s7
          refine hKS.out.out _ _ hb7 (fun hHeld => ?_)
          clear hKS KK s7
          try simp only [Act.put, List.setIfInBounds_toArray, List.set_cons_zero, List.set_cons_succ]
          refine wpAnyH_take (i := 8) (oi := { dst := some 4, op := Op.assign (Operand.tmp 15), type := _, pos := _, after := _, guard := _ }) (v := ?_) rfl (by kernel_rfl) (by kernel_rfl) (by kernel_rfl) (fun _ _ _ h => h) (Or.inl ⟨by rfl, ?_⟩) hHeld ?_
          rotate_left
          · intro wq hSw
            go_simp
            rfl
          try simp only [Act.put, List.setIfInBounds_toArray, List.set_cons_zero, List.set_cons_succ]
          refine wpAnyH_done (by kernel_rfl) ?_ _
          go_wp2_with fail
          go_meet
          case rel => exact ⟨g3, A2, n2, c2, E2, m2, f2, rfl, rfl, o7, hp7, hb7⟩
      refine AllReadyH.cons (o := { dst := some 3, op := Op.alloc 25, type := _, pos := _, after := _, guard := _ }) rfl (fun KK hKK => ?_) AllReadyH.nil
      · have hKS := Lib.hid hKK
        clear hKK
        have hx := grow V0 (Obj.cells (dv none 0 0 none 0 0 0) 25)
        have og := Nm.Own.new V0 25 (dv none 0 0 none 0 0 0)
        have hg3 := hb.size
        go_simp
        try replace od := od.below hx
        try replace hz := hz.below hx
        try replace hp := hp.below hx
        replace hb := hb.trans (hx.mono hb.size)
        refine hKS.out.out _ _ hb (fun hHeld => ?_)
        clear hKS KK hx
        generalize World.alloc V0 (Obj.cells (dv none 0 0 none 0 0 0) 25) = V6 at *
        generalize V0.heap.size = g3 at *
        try simp only [Act.put, List.setIfInBounds_toArray, List.set_cons_zero, List.set_cons_succ]
        refine wpAnyH_ready (rs := [1]) (by kernel_rfl) (by simp) ?_
        refine AllReadyH.cons (o := { dst := some 12, op := Op.call { callee := Callee.value (Operand.func 24), args := #[], argTypes := #[] }, type := _, pos := _, after := _, guard := _ }) rfl (fun KK hKK => ?_) AllReadyH.nil
        have hKS := Lib.hid hKK
        clear hKK
        go_simp
        refine (ones_any _).mono ?_
        rintro e w1 ⟨rfl, hx⟩
        go_wp2_with fail
        try replace od := od.below hx
        try replace hz := hz.below hx
        try replace og := og.below hx
        try replace hp := hp.below hx
        replace hb := hb.trans (hx.mono hb.size)
        refine hKS.out.out _ _ hb (fun hHeld => ?_)
        clear hKS KK hx
        try simp only [Act.put, List.setIfInBounds_toArray, List.set_cons_zero, List.set_cons_succ]
        refine wpAnyH_ready (rs := [2]) (by kernel_rfl) (by simp) ?_
        refine AllReadyH.cons (o := { dst := some 13, op := Op.call { callee := Callee.value (Operand.func 16), args := #[Operand.tmp 11, Operand.const (Value.int IntKind.i64 0), Operand.tmp 12], argTypes := #[25, 3, 9] }, type := _, pos := _, after := _, guard := _ }) rfl (fun KK hKK => ?_) AllReadyH.nil
        have hKS := Lib.hid hKK
        clear hKK
        have hput := put_any A n c A' 0 c' D0 0 Dm.oB _ hz (by omega)
        rw [put_one] at hput
        go_simp
        refine hput.mono ?_
        rintro e w2 ⟨⟨A2, n2, c2, E2, m2, f2, rfl, hp⟩, hx⟩
        clear hput
        go_wp2_with fail
        try replace od := od.below hx
        try replace hz := hz.below hx
        try replace og := og.below hx
        replace hb := hb.trans (hx.mono hb.size)
        refine hKS.out.out _ _ hb (fun hHeld => ?_)
        clear hKS KK hx
        try simp only [Act.put, List.setIfInBounds_toArray, List.set_cons_zero, List.set_cons_succ]
        refine wpAnyH_take (i := 3) (oi := { dst := some 10, op := Op.move (Operand.tmp 13), type := _, pos := _, after := _, guard := _ }) (v := ?_) rfl (by kernel_rfl) (by kernel_rfl) (by kernel_rfl) (fun _ _ _ h => h) (Or.inl ⟨by rfl, ?_⟩) hHeld ?_
        rotate_left
        · intro wq hSw
          go_simp
          rfl
        try simp only [Act.put, List.setIfInBounds_toArray, List.set_cons_zero, List.set_cons_succ]
        refine wpAnyH_take (i := 4) (oi := { dst := some 14, op := Op.extract (Operand.tmp 10) 0, type := _, pos := _, after := _, guard := _ }) (v := ?_) rfl (by kernel_rfl) (by kernel_rfl) (by kernel_rfl) (fun _ _ _ h => h) (Or.inl ⟨by rfl, ?_⟩) hHeld ?_
        rotate_left
        · intro wq hSw
          go_simp
          rfl
        try simp only [Act.put, List.setIfInBounds_toArray, List.set_cons_zero, List.set_cons_succ]
        refine wpAnyH_take (i := 5) (oi := { dst := some 15, op := Op.extract (Operand.tmp 10) 1, type := _, pos := _, after := _, guard := _ }) (v := ?_) rfl (by kernel_rfl) (by kernel_rfl) (by kernel_rfl) (fun _ _ _ h => h) (Or.inl ⟨by rfl, ?_⟩) hHeld ?_
        rotate_left
        · intro wq hSw
          go_simp
          rfl
        try simp only [Act.put, List.setIfInBounds_toArray, List.set_cons_zero, List.set_cons_succ]
        refine wpAnyH_ready (rs := [7]) (by kernel_rfl) (by simp) ?_
        refine AllReadyH.cons (o := { dst := none, op := Op.store 25 (Operand.tmp 3) (Operand.tmp 14), type := _, pos := _, after := _, guard := _ }) rfl (fun KK hKK => ?_) AllReadyH.nil
        have hKS := Lib.hid hKK
        clear hKK
        have s7 := St.row w2 g3 (dv A2 n2 c2 E2 m2 f2 (-1))
        have o7 : Nm.Own (w2.setRow g3 (dv A2 n2 c2 E2 m2 f2 (-1))) g3 25 (dv A2 n2 c2 E2 m2 f2 (-1)) := setRow_heap w2 g3 _ _ 25 (0, 0) og
        have hb7 := s7.below hb hg3
        refine st25 (A := A2) (n := n2) (c := c2) (A' := E2) (m := m2) (c' := f2) (l := -1) rfl (.tmp 3) (.tmp 14) rfl (by simp [Act.eval, Act.put]) (by simp [Act.eval, Act.put, D1]) og rfl ?_
        have hp7 := hp.st og s7
        refine hKS.out.out _ _ hb7 (fun hHeld => ?_)
        clear hKS KK s7
        try simp only [Act.put, List.setIfInBounds_toArray, List.set_cons_zero, List.set_cons_succ]
        refine wpAnyH_take (i := 8) (oi := { dst := some 4, op := Op.assign (Operand.tmp 15), type := _, pos := _, after := _, guard := _ }) (v := ?_) rfl (by kernel_rfl) (by kernel_rfl) (by kernel_rfl) (fun _ _ _ h => h) (Or.inl ⟨by rfl, ?_⟩) hHeld ?_
        rotate_left
        · intro wq hSw
          go_simp
          rfl
        try simp only [Act.put, List.setIfInBounds_toArray, List.set_cons_zero, List.set_cons_succ]
        refine wpAnyH_done (by kernel_rfl) ?_ _
        go_wp2_with fail
        go_meet
        case rel => exact ⟨g3, A2, n2, c2, E2, m2, f2, rfl, rfl, o7, hp7, hb7⟩
    refine AllReadyH.cons (o := { dst := some 12, op := Op.call { callee := Callee.value (Operand.func 24), args := #[], argTypes := #[] }, type := _, pos := _, after := _, guard := _ }) rfl (fun KK hKK => ?_) ?_
    · have hKS := Lib.hid hKK
      clear hKK
      go_simp
      refine (ones_any _).mono ?_
      rintro e w1 ⟨rfl, hx⟩
      go_wp2_with fail
      try replace od := od.below hx
      try replace hz := hz.below hx
      try replace og := og.below hx
      try replace hp := hp.below hx
      replace hb := hb.trans (hx.mono hb.size)
      refine hKS.out.out _ _ hb (fun hHeld => ?_)
      clear hKS KK hx
      try simp only [Act.put, List.setIfInBounds_toArray, List.set_cons_zero, List.set_cons_succ]
      refine wpAnyH_ready (rs := [0, 6]) (by kernel_rfl) (by simp) ?_
      refine AllReadyH.cons (o := { dst := some 11, op := Op.load 25 (Operand.tmp 1), type := _, pos := _, after := _, guard := _ }) rfl (fun KK hKK => ?_) ?_
      · have hKS := Lib.hid hKK
        clear hKK
        have d0 := od.cell 0
        have d1 := od.cell 1
        have d2 := od.cell 2
        simp only [List.getElem?_toArray, List.getElem?_cons_zero, List.getElem?_cons_succ] at d0 d1 d2
        go_simp
        refine hKS.out.out _ _ hb (fun hHeld => ?_)
        clear hKS KK d0 d1 d2
        try simp only [Act.put, List.setIfInBounds_toArray, List.set_cons_zero, List.set_cons_succ]
        refine wpAnyH_ready (rs := [2, 6]) (by kernel_rfl) (by simp) ?_
        refine AllReadyH.cons (o := { dst := some 13, op := Op.call { callee := Callee.value (Operand.func 16), args := #[Operand.tmp 11, Operand.const (Value.int IntKind.i64 0), Operand.tmp 12], argTypes := #[25, 3, 9] }, type := _, pos := _, after := _, guard := _ }) rfl (fun KK hKK => ?_) ?_
        · have hKS := Lib.hid hKK
          clear hKK
          have hput := put_any A n c A' 0 c' D0 0 Dm.oB _ hz (by omega)
          rw [put_one] at hput
          go_simp
          refine hput.mono ?_
          rintro e w2 ⟨⟨A2, n2, c2, E2, m2, f2, rfl, hp⟩, hx⟩
          clear hput
          go_wp2_with fail
          try replace od := od.below hx
          try replace hz := hz.below hx
          try replace og := og.below hx
          replace hb := hb.trans (hx.mono hb.size)
          refine hKS.out.out _ _ hb (fun hHeld => ?_)
          clear hKS KK hx
          try simp only [Act.put, List.setIfInBounds_toArray, List.set_cons_zero, List.set_cons_succ]
          refine wpAnyH_take (i := 3) (oi := { dst := some 10, op := Op.move (Operand.tmp 13), type := _, pos := _, after := _, guard := _ }) (v := ?_) rfl (by kernel_rfl) (by kernel_rfl) (by kernel_rfl) (fun _ _ _ h => h) (Or.inl ⟨by rfl, ?_⟩) hHeld ?_
          rotate_left
          · intro wq hSw
            go_simp
            rfl
          try simp only [Act.put, List.setIfInBounds_toArray, List.set_cons_zero, List.set_cons_succ]
          refine wpAnyH_take (i := 4) (oi := { dst := some 14, op := Op.extract (Operand.tmp 10) 0, type := _, pos := _, after := _, guard := _ }) (v := ?_) rfl (by kernel_rfl) (by kernel_rfl) (by kernel_rfl) (fun _ _ _ h => h) (Or.inl ⟨by rfl, ?_⟩) hHeld ?_
          rotate_left
          · intro wq hSw
            go_simp
            rfl
          try simp only [Act.put, List.setIfInBounds_toArray, List.set_cons_zero, List.set_cons_succ]
          refine wpAnyH_take (i := 5) (oi := { dst := some 15, op := Op.extract (Operand.tmp 10) 1, type := _, pos := _, after := _, guard := _ }) (v := ?_) rfl (by kernel_rfl) (by kernel_rfl) (by kernel_rfl) (fun _ _ _ h => h) (Or.inl ⟨by rfl, ?_⟩) hHeld ?_
          rotate_left
          · intro wq hSw
            go_simp
            rfl
          try simp only [Act.put, List.setIfInBounds_toArray, List.set_cons_zero, List.set_cons_succ]
          refine wpAnyH_ready (rs := [6]) (by kernel_rfl) (by simp) ?_
          refine AllReadyH.cons (o := { dst := some 3, op := Op.alloc 25, type := _, pos := _, after := _, guard := _ }) rfl (fun KK hKK => ?_) AllReadyH.nil
          have hKS := Lib.hid hKK
          clear hKK
          have hx := grow w2 (Obj.cells (dv none 0 0 none 0 0 0) 25)
          have og := Nm.Own.new w2 25 (dv none 0 0 none 0 0 0)
          have hg3 := hb.size
          go_simp
          try replace od := od.below hx
          try replace hz := hz.below hx
          try replace hp := hp.below hx
          replace hb := hb.trans (hx.mono hb.size)
          refine hKS.out.out _ _ hb (fun hHeld => ?_)
          clear hKS KK hx
          generalize World.alloc w2 (Obj.cells (dv none 0 0 none 0 0 0) 25) = V6 at *
          generalize w2.heap.size = g3 at *
          try simp only [Act.put, List.setIfInBounds_toArray, List.set_cons_zero, List.set_cons_succ]
          refine wpAnyH_ready (rs := [7]) (by kernel_rfl) (by simp) ?_
          refine AllReadyH.cons (o := { dst := none, op := Op.store 25 (Operand.tmp 3) (Operand.tmp 14), type := _, pos := _, after := _, guard := _ }) rfl (fun KK hKK => ?_) AllReadyH.nil
          have hKS := Lib.hid hKK
          clear hKK
          have s7 := St.row V6 g3 (dv A2 n2 c2 E2 m2 f2 (-1))
          have o7 : Nm.Own (V6.setRow g3 (dv A2 n2 c2 E2 m2 f2 (-1))) g3 25 (dv A2 n2 c2 E2 m2 f2 (-1)) := setRow_heap V6 g3 _ _ 25 (0, 0) og
          have hb7 := s7.below hb hg3
          refine st25 (A := A2) (n := n2) (c := c2) (A' := E2) (m := m2) (c' := f2) (l := -1) rfl (.tmp 3) (.tmp 14) rfl (by simp [Act.eval, Act.put]) (by simp [Act.eval, Act.put, D1]) og rfl ?_
          have hp7 := hp.st og s7
          refine hKS.out.out _ _ hb7 (fun hHeld => ?_)
          clear hKS KK s7
          try simp only [Act.put, List.setIfInBounds_toArray, List.set_cons_zero, List.set_cons_succ]
          refine wpAnyH_take (i := 8) (oi := { dst := some 4, op := Op.assign (Operand.tmp 15), type := _, pos := _, after := _, guard := _ }) (v := ?_) rfl (by kernel_rfl) (by kernel_rfl) (by kernel_rfl) (fun _ _ _ h => h) (Or.inl ⟨by rfl, ?_⟩) hHeld ?_
          rotate_left
          · intro wq hSw
            go_simp
            rfl
          try simp only [Act.put, List.setIfInBounds_toArray, List.set_cons_zero, List.set_cons_succ]
          refine wpAnyH_done (by kernel_rfl) ?_ _
          go_wp2_with fail
          go_meet
          case rel => exact ⟨g3, A2, n2, c2, E2, m2, f2, rfl, rfl, o7, hp7, hb7⟩
        refine AllReadyH.cons (o := { dst := some 3, op := Op.alloc 25, type := _, pos := _, after := _, guard := _ }) rfl (fun KK hKK => ?_) AllReadyH.nil
        · have hKS := Lib.hid hKK
          clear hKK
          have hx := grow w1 (Obj.cells (dv none 0 0 none 0 0 0) 25)
          have og := Nm.Own.new w1 25 (dv none 0 0 none 0 0 0)
          have hg3 := hb.size
          go_simp
          try replace od := od.below hx
          try replace hz := hz.below hx
          try replace hp := hp.below hx
          replace hb := hb.trans (hx.mono hb.size)
          refine hKS.out.out _ _ hb (fun hHeld => ?_)
          clear hKS KK hx
          generalize World.alloc w1 (Obj.cells (dv none 0 0 none 0 0 0) 25) = V6 at *
          generalize w1.heap.size = g3 at *
          try simp only [Act.put, List.setIfInBounds_toArray, List.set_cons_zero, List.set_cons_succ]
          refine wpAnyH_ready (rs := [2]) (by kernel_rfl) (by simp) ?_
          refine AllReadyH.cons (o := { dst := some 13, op := Op.call { callee := Callee.value (Operand.func 16), args := #[Operand.tmp 11, Operand.const (Value.int IntKind.i64 0), Operand.tmp 12], argTypes := #[25, 3, 9] }, type := _, pos := _, after := _, guard := _ }) rfl (fun KK hKK => ?_) AllReadyH.nil
          have hKS := Lib.hid hKK
          clear hKK
          have hput := put_any A n c A' 0 c' D0 0 Dm.oB _ hz (by omega)
          rw [put_one] at hput
          go_simp
          refine hput.mono ?_
          rintro e w2 ⟨⟨A2, n2, c2, E2, m2, f2, rfl, hp⟩, hx⟩
          clear hput
          go_wp2_with fail
          try replace od := od.below hx
          try replace hz := hz.below hx
          try replace og := og.below hx
          replace hb := hb.trans (hx.mono hb.size)
          refine hKS.out.out _ _ hb (fun hHeld => ?_)
          clear hKS KK hx
          try simp only [Act.put, List.setIfInBounds_toArray, List.set_cons_zero, List.set_cons_succ]
          refine wpAnyH_take (i := 3) (oi := { dst := some 10, op := Op.move (Operand.tmp 13), type := _, pos := _, after := _, guard := _ }) (v := ?_) rfl (by kernel_rfl) (by kernel_rfl) (by kernel_rfl) (fun _ _ _ h => h) (Or.inl ⟨by rfl, ?_⟩) hHeld ?_
          rotate_left
          · intro wq hSw
            go_simp
            rfl
          try simp only [Act.put, List.setIfInBounds_toArray, List.set_cons_zero, List.set_cons_succ]
          refine wpAnyH_take (i := 4) (oi := { dst := some 14, op := Op.extract (Operand.tmp 10) 0, type := _, pos := _, after := _, guard := _ }) (v := ?_) rfl (by kernel_rfl) (by kernel_rfl) (by kernel_rfl) (fun _ _ _ h => h) (Or.inl ⟨by rfl, ?_⟩) hHeld ?_
          rotate_left
          · intro wq hSw
            go_simp
            rfl
          try simp only [Act.put, List.setIfInBounds_toArray, List.set_cons_zero, List.set_cons_succ]
          refine wpAnyH_take (i := 5) (oi := { dst := some 15, op := Op.extract (Operand.tmp 10) 1, type := _, pos := _, after := _, guard := _ }) (v := ?_) rfl (by kernel_rfl) (by kernel_rfl) (by kernel_rfl) (fun _ _ _ h => h) (Or.inl ⟨by rfl, ?_⟩) hHeld ?_
          rotate_left
          · intro wq hSw
            go_simp
            rfl
          try simp only [Act.put, List.setIfInBounds_toArray, List.set_cons_zero, List.set_cons_succ]
          refine wpAnyH_ready (rs := [7]) (by kernel_rfl) (by simp) ?_
          refine AllReadyH.cons (o := { dst := none, op := Op.store 25 (Operand.tmp 3) (Operand.tmp 14), type := _, pos := _, after := _, guard := _ }) rfl (fun KK hKK => ?_) AllReadyH.nil
          have hKS := Lib.hid hKK
          clear hKK
          have s7 := St.row w2 g3 (dv A2 n2 c2 E2 m2 f2 (-1))
          have o7 : Nm.Own (w2.setRow g3 (dv A2 n2 c2 E2 m2 f2 (-1))) g3 25 (dv A2 n2 c2 E2 m2 f2 (-1)) := setRow_heap w2 g3 _ _ 25 (0, 0) og
          have hb7 := s7.below hb hg3
          refine st25 (A := A2) (n := n2) (c := c2) (A' := E2) (m := m2) (c' := f2) (l := -1) rfl (.tmp 3) (.tmp 14) rfl (by simp [Act.eval, Act.put]) (by simp [Act.eval, Act.put, D1]) og rfl ?_
          have hp7 := hp.st og s7
          refine hKS.out.out _ _ hb7 (fun hHeld => ?_)
          clear hKS KK s7
          try simp only [Act.put, List.setIfInBounds_toArray, List.set_cons_zero, List.set_cons_succ]
          refine wpAnyH_take (i := 8) (oi := { dst := some 4, op := Op.assign (Operand.tmp 15), type := _, pos := _, after := _, guard := _ }) (v := ?_) rfl (by kernel_rfl) (by kernel_rfl) (by kernel_rfl) (fun _ _ _ h => h) (Or.inl ⟨by rfl, ?_⟩) hHeld ?_
          rotate_left
          · intro wq hSw
            go_simp
            rfl
          try simp only [Act.put, List.setIfInBounds_toArray, List.set_cons_zero, List.set_cons_succ]
          refine wpAnyH_done (by kernel_rfl) ?_ _
          go_wp2_with fail
          go_meet
          case rel => exact ⟨g3, A2, n2, c2, E2, m2, f2, rfl, rfl, o7, hp7, hb7⟩
      refine AllReadyH.cons (o := { dst := some 3, op := Op.alloc 25, type := _, pos := _, after := _, guard := _ }) rfl (fun KK hKK => ?_) AllReadyH.nil
      · have hKS := Lib.hid hKK
        clear hKK
        have hx := grow w1 (Obj.cells (dv none 0 0 none 0 0 0) 25)
        have og := Nm.Own.new w1 25 (dv none 0 0 none 0 0 0)
        have hg3 := hb.size
        go_simp
        try replace od := od.below hx
        try replace hz := hz.below hx
        try replace hp := hp.below hx
        replace hb := hb.trans (hx.mono hb.size)
        refine hKS.out.out _ _ hb (fun hHeld => ?_)
        clear hKS KK hx
        generalize World.alloc w1 (Obj.cells (dv none 0 0 none 0 0 0) 25) = V6 at *
        generalize w1.heap.size = g3 at *
        try simp only [Act.put, List.setIfInBounds_toArray, List.set_cons_zero, List.set_cons_succ]
        refine wpAnyH_ready (rs := [0]) (by kernel_rfl) (by simp) ?_
        refine AllReadyH.cons (o := { dst := some 11, op := Op.load 25 (Operand.tmp 1), type := _, pos := _, after := _, guard := _ }) rfl (fun KK hKK => ?_) AllReadyH.nil
        have hKS := Lib.hid hKK
        clear hKK
        have d0 := od.cell 0
        have d1 := od.cell 1
        have d2 := od.cell 2
        simp only [List.getElem?_toArray, List.getElem?_cons_zero, List.getElem?_cons_succ] at d0 d1 d2
        go_simp
        refine hKS.out.out _ _ hb (fun hHeld => ?_)
        clear hKS KK d0 d1 d2
        try simp only [Act.put, List.setIfInBounds_toArray, List.set_cons_zero, List.set_cons_succ]
        refine wpAnyH_ready (rs := [2]) (by kernel_rfl) (by simp) ?_
        refine AllReadyH.cons (o := { dst := some 13, op := Op.call { callee := Callee.value (Operand.func 16), args := #[Operand.tmp 11, Operand.const (Value.int IntKind.i64 0), Operand.tmp 12], argTypes := #[25, 3, 9] }, type := _, pos := _, after := _, guard := _ }) rfl (fun KK hKK => ?_) AllReadyH.nil
        have hKS := Lib.hid hKK
        clear hKK
        have hput := put_any A n c A' 0 c' D0 0 Dm.oB _ hz (by omega)
        rw [put_one] at hput
        go_simp
        refine hput.mono ?_
        rintro e w2 ⟨⟨A2, n2, c2, E2, m2, f2, rfl, hp⟩, hx⟩
        clear hput
        go_wp2_with fail
        try replace od := od.below hx
        try replace hz := hz.below hx
        try replace og := og.below hx
        replace hb := hb.trans (hx.mono hb.size)
        refine hKS.out.out _ _ hb (fun hHeld => ?_)
        clear hKS KK hx
        try simp only [Act.put, List.setIfInBounds_toArray, List.set_cons_zero, List.set_cons_succ]
        refine wpAnyH_take (i := 3) (oi := { dst := some 10, op := Op.move (Operand.tmp 13), type := _, pos := _, after := _, guard := _ }) (v := ?_) rfl (by kernel_rfl) (by kernel_rfl) (by kernel_rfl) (fun _ _ _ h => h) (Or.inl ⟨by rfl, ?_⟩) hHeld ?_
        rotate_left
        · intro wq hSw
          go_simp
          rfl
        try simp only [Act.put, List.setIfInBounds_toArray, List.set_cons_zero, List.set_cons_succ]
        refine wpAnyH_take (i := 4) (oi := { dst := some 14, op := Op.extract (Operand.tmp 10) 0, type := _, pos := _, after := _, guard := _ }) (v := ?_) rfl (by kernel_rfl) (by kernel_rfl) (by kernel_rfl) (fun _ _ _ h => h) (Or.inl ⟨by rfl, ?_⟩) hHeld ?_
        rotate_left
        · intro wq hSw
          go_simp
          rfl
        try simp only [Act.put, List.setIfInBounds_toArray, List.set_cons_zero, List.set_cons_succ]
        refine wpAnyH_take (i := 5) (oi := { dst := some 15, op := Op.extract (Operand.tmp 10) 1, type := _, pos := _, after := _, guard := _ }) (v := ?_) rfl (by kernel_rfl) (by kernel_rfl) (by kernel_rfl) (fun _ _ _ h => h) (Or.inl ⟨by rfl, ?_⟩) hHeld ?_
        rotate_left
        · intro wq hSw
          go_simp
          rfl
        try simp only [Act.put, List.setIfInBounds_toArray, List.set_cons_zero, List.set_cons_succ]
        refine wpAnyH_ready (rs := [7]) (by kernel_rfl) (by simp) ?_
        refine AllReadyH.cons (o := { dst := none, op := Op.store 25 (Operand.tmp 3) (Operand.tmp 14), type := _, pos := _, after := _, guard := _ }) rfl (fun KK hKK => ?_) AllReadyH.nil
        have hKS := Lib.hid hKK
        clear hKK
        have s7 := St.row w2 g3 (dv A2 n2 c2 E2 m2 f2 (-1))
        have o7 : Nm.Own (w2.setRow g3 (dv A2 n2 c2 E2 m2 f2 (-1))) g3 25 (dv A2 n2 c2 E2 m2 f2 (-1)) := setRow_heap w2 g3 _ _ 25 (0, 0) og
        have hb7 := s7.below hb hg3
        refine st25 (A := A2) (n := n2) (c := c2) (A' := E2) (m := m2) (c' := f2) (l := -1) rfl (.tmp 3) (.tmp 14) rfl (by simp [Act.eval, Act.put]) (by simp [Act.eval, Act.put, D1]) og rfl ?_
        have hp7 := hp.st og s7
        refine hKS.out.out _ _ hb7 (fun hHeld => ?_)
        clear hKS KK s7
        try simp only [Act.put, List.setIfInBounds_toArray, List.set_cons_zero, List.set_cons_succ]
        refine wpAnyH_take (i := 8) (oi := { dst := some 4, op := Op.assign (Operand.tmp 15), type := _, pos := _, after := _, guard := _ }) (v := ?_) rfl (by kernel_rfl) (by kernel_rfl) (by kernel_rfl) (fun _ _ _ h => h) (Or.inl ⟨by rfl, ?_⟩) hHeld ?_
        rotate_left
        · intro wq hSw
          go_simp
          rfl
        try simp only [Act.put, List.setIfInBounds_toArray, List.set_cons_zero, List.set_cons_succ]
        refine wpAnyH_done (by kernel_rfl) ?_ _
        go_wp2_with fail
        go_meet
        case rel => exact ⟨g3, A2, n2, c2, E2, m2, f2, rfl, rfl, o7, hp7, hb7⟩
    refine AllReadyH.cons (o := { dst := some 3, op := Op.alloc 25, type := _, pos := _, after := _, guard := _ }) rfl (fun KK hKK => ?_) AllReadyH.nil
    · have hKS := Lib.hid hKK
      clear hKK
      have hx := grow V0 (Obj.cells (dv none 0 0 none 0 0 0) 25)
      have og := Nm.Own.new V0 25 (dv none 0 0 none 0 0 0)
      have hg3 := hb.size
      go_simp
      try replace od := od.below hx
      try replace hz := hz.below hx
      try replace hp := hp.below hx
      replace hb := hb.trans (hx.mono hb.size)
      refine hKS.out.out _ _ hb (fun hHeld => ?_)
      clear hKS KK hx
      generalize World.alloc V0 (Obj.cells (dv none 0 0 none 0 0 0) 25) = V6 at *
      generalize V0.heap.size = g3 at *
      try simp only [Act.put, List.setIfInBounds_toArray, List.set_cons_zero, List.set_cons_succ]
      refine wpAnyH_ready (rs := [0, 1]) (by kernel_rfl) (by simp) ?_
      refine AllReadyH.cons (o := { dst := some 11, op := Op.load 25 (Operand.tmp 1), type := _, pos := _, after := _, guard := _ }) rfl (fun KK hKK => ?_) ?_
      · have hKS := Lib.hid hKK
        clear hKK
        have d0 := od.cell 0
        have d1 := od.cell 1
        have d2 := od.cell 2
        simp only [List.getElem?_toArray, List.getElem?_cons_zero, List.getElem?_cons_succ] at d0 d1 d2
        go_simp
        refine hKS.out.out _ _ hb (fun hHeld => ?_)
        clear hKS KK d0 d1 d2
        try simp only [Act.put, List.setIfInBounds_toArray, List.set_cons_zero, List.set_cons_succ]
        refine wpAnyH_ready (rs := [1]) (by kernel_rfl) (by simp) ?_
        refine AllReadyH.cons (o := { dst := some 12, op := Op.call { callee := Callee.value (Operand.func 24), args := #[], argTypes := #[] }, type := _, pos := _, after := _, guard := _ }) rfl (fun KK hKK => ?_) AllReadyH.nil
        have hKS := Lib.hid hKK
        clear hKK
        go_simp
        refine (ones_any _).mono ?_
        rintro e w1 ⟨rfl, hx⟩
        go_wp2_with fail
        try replace od := od.below hx
        try replace hz := hz.below hx
        try replace og := og.below hx
        try replace hp := hp.below hx
        replace hb := hb.trans (hx.mono hb.size)
        refine hKS.out.out _ _ hb (fun hHeld => ?_)
        clear hKS KK hx
        try simp only [Act.put, List.setIfInBounds_toArray, List.set_cons_zero, List.set_cons_succ]
        refine wpAnyH_ready (rs := [2]) (by kernel_rfl) (by simp) ?_
        refine AllReadyH.cons (o := { dst := some 13, op := Op.call { callee := Callee.value (Operand.func 16), args := #[Operand.tmp 11, Operand.const (Value.int IntKind.i64 0), Operand.tmp 12], argTypes := #[25, 3, 9] }, type := _, pos := _, after := _, guard := _ }) rfl (fun KK hKK => ?_) AllReadyH.nil
        have hKS := Lib.hid hKK
        clear hKK
        have hput := put_any A n c A' 0 c' D0 0 Dm.oB _ hz (by omega)
        rw [put_one] at hput
        go_simp
        refine hput.mono ?_
        rintro e w2 ⟨⟨A2, n2, c2, E2, m2, f2, rfl, hp⟩, hx⟩
        clear hput
        go_wp2_with fail
        try replace od := od.below hx
        try replace hz := hz.below hx
        try replace og := og.below hx
        replace hb := hb.trans (hx.mono hb.size)
        refine hKS.out.out _ _ hb (fun hHeld => ?_)
        clear hKS KK hx
        try simp only [Act.put, List.setIfInBounds_toArray, List.set_cons_zero, List.set_cons_succ]
        refine wpAnyH_take (i := 3) (oi := { dst := some 10, op := Op.move (Operand.tmp 13), type := _, pos := _, after := _, guard := _ }) (v := ?_) rfl (by kernel_rfl) (by kernel_rfl) (by kernel_rfl) (fun _ _ _ h => h) (Or.inl ⟨by rfl, ?_⟩) hHeld ?_
        rotate_left
        · intro wq hSw
          go_simp
          rfl
        try simp only [Act.put, List.setIfInBounds_toArray, List.set_cons_zero, List.set_cons_succ]
        refine wpAnyH_take (i := 4) (oi := { dst := some 14, op := Op.extract (Operand.tmp 10) 0, type := _, pos := _, after := _, guard := _ }) (v := ?_) rfl (by kernel_rfl) (by kernel_rfl) (by kernel_rfl) (fun _ _ _ h => h) (Or.inl ⟨by rfl, ?_⟩) hHeld ?_
        rotate_left
        · intro wq hSw
          go_simp
          rfl
        try simp only [Act.put, List.setIfInBounds_toArray, List.set_cons_zero, List.set_cons_succ]
        refine wpAnyH_take (i := 5) (oi := { dst := some 15, op := Op.extract (Operand.tmp 10) 1, type := _, pos := _, after := _, guard := _ }) (v := ?_) rfl (by kernel_rfl) (by kernel_rfl) (by kernel_rfl) (fun _ _ _ h => h) (Or.inl ⟨by rfl, ?_⟩) hHeld ?_
        rotate_left
        · intro wq hSw
          go_simp
          rfl
        try simp only [Act.put, List.setIfInBounds_toArray, List.set_cons_zero, List.set_cons_succ]
        refine wpAnyH_ready (rs := [7]) (by kernel_rfl) (by simp) ?_
        refine AllReadyH.cons (o := { dst := none, op := Op.store 25 (Operand.tmp 3) (Operand.tmp 14), type := _, pos := _, after := _, guard := _ }) rfl (fun KK hKK => ?_) AllReadyH.nil
        have hKS := Lib.hid hKK
        clear hKK
        have s7 := St.row w2 g3 (dv A2 n2 c2 E2 m2 f2 (-1))
        have o7 : Nm.Own (w2.setRow g3 (dv A2 n2 c2 E2 m2 f2 (-1))) g3 25 (dv A2 n2 c2 E2 m2 f2 (-1)) := setRow_heap w2 g3 _ _ 25 (0, 0) og
        have hb7 := s7.below hb hg3
        refine st25 (A := A2) (n := n2) (c := c2) (A' := E2) (m := m2) (c' := f2) (l := -1) rfl (.tmp 3) (.tmp 14) rfl (by simp [Act.eval, Act.put]) (by simp [Act.eval, Act.put, D1]) og rfl ?_
        have hp7 := hp.st og s7
        refine hKS.out.out _ _ hb7 (fun hHeld => ?_)
        clear hKS KK s7
        try simp only [Act.put, List.setIfInBounds_toArray, List.set_cons_zero, List.set_cons_succ]
        refine wpAnyH_take (i := 8) (oi := { dst := some 4, op := Op.assign (Operand.tmp 15), type := _, pos := _, after := _, guard := _ }) (v := ?_) rfl (by kernel_rfl) (by kernel_rfl) (by kernel_rfl) (fun _ _ _ h => h) (Or.inl ⟨by rfl, ?_⟩) hHeld ?_
        rotate_left
        · intro wq hSw
          go_simp
          rfl
        try simp only [Act.put, List.setIfInBounds_toArray, List.set_cons_zero, List.set_cons_succ]
        refine wpAnyH_done (by kernel_rfl) ?_ _
        go_wp2_with fail
        go_meet
        case rel => exact ⟨g3, A2, n2, c2, E2, m2, f2, rfl, rfl, o7, hp7, hb7⟩
      refine AllReadyH.cons (o := { dst := some 12, op := Op.call { callee := Callee.value (Operand.func 24), args := #[], argTypes := #[] }, type := _, pos := _, after := _, guard := _ }) rfl (fun KK hKK => ?_) AllReadyH.nil
      · have hKS := Lib.hid hKK
        clear hKK
        go_simp
        refine (ones_any _).mono ?_
        rintro e w1 ⟨rfl, hx⟩
        go_wp2_with fail
        try replace od := od.below hx
        try replace hz := hz.below hx
        try replace og := og.below hx
        try replace hp := hp.below hx
        replace hb := hb.trans (hx.mono hb.size)
        refine hKS.out.out _ _ hb (fun hHeld => ?_)
        clear hKS KK hx
        try simp only [Act.put, List.setIfInBounds_toArray, List.set_cons_zero, List.set_cons_succ]
        refine wpAnyH_ready (rs := [0]) (by kernel_rfl) (by simp) ?_
        refine AllReadyH.cons (o := { dst := some 11, op := Op.load 25 (Operand.tmp 1), type := _, pos := _, after := _, guard := _ }) rfl (fun KK hKK => ?_) AllReadyH.nil
        have hKS := Lib.hid hKK
        clear hKK
        have d0 := od.cell 0
        have d1 := od.cell 1
        have d2 := od.cell 2
        simp only [List.getElem?_toArray, List.getElem?_cons_zero, List.getElem?_cons_succ] at d0 d1 d2
        go_simp
        refine hKS.out.out _ _ hb (fun hHeld => ?_)
        clear hKS KK d0 d1 d2
        try simp only [Act.put, List.setIfInBounds_toArray, List.set_cons_zero, List.set_cons_succ]
        refine wpAnyH_ready (rs := [2]) (by kernel_rfl) (by simp) ?_
        refine AllReadyH.cons (o := { dst := some 13, op := Op.call { callee := Callee.value (Operand.func 16), args := #[Operand.tmp 11, Operand.const (Value.int IntKind.i64 0), Operand.tmp 12], argTypes := #[25, 3, 9] }, type := _, pos := _, after := _, guard := _ }) rfl (fun KK hKK => ?_) AllReadyH.nil
        have hKS := Lib.hid hKK
        clear hKK
        have hput := put_any A n c A' 0 c' D0 0 Dm.oB _ hz (by omega)
        rw [put_one] at hput
        go_simp
        refine hput.mono ?_
        rintro e w2 ⟨⟨A2, n2, c2, E2, m2, f2, rfl, hp⟩, hx⟩
        clear hput
        go_wp2_with fail
        try replace od := od.below hx
        try replace hz := hz.below hx
        try replace og := og.below hx
        replace hb := hb.trans (hx.mono hb.size)
        refine hKS.out.out _ _ hb (fun hHeld => ?_)
        clear hKS KK hx
        try simp only [Act.put, List.setIfInBounds_toArray, List.set_cons_zero, List.set_cons_succ]
        refine wpAnyH_take (i := 3) (oi := { dst := some 10, op := Op.move (Operand.tmp 13), type := _, pos := _, after := _, guard := _ }) (v := ?_) rfl (by kernel_rfl) (by kernel_rfl) (by kernel_rfl) (fun _ _ _ h => h) (Or.inl ⟨by rfl, ?_⟩) hHeld ?_
        rotate_left
        · intro wq hSw
          go_simp
          rfl
        try simp only [Act.put, List.setIfInBounds_toArray, List.set_cons_zero, List.set_cons_succ]
        refine wpAnyH_take (i := 4) (oi := { dst := some 14, op := Op.extract (Operand.tmp 10) 0, type := _, pos := _, after := _, guard := _ }) (v := ?_) rfl (by kernel_rfl) (by kernel_rfl) (by kernel_rfl) (fun _ _ _ h => h) (Or.inl ⟨by rfl, ?_⟩) hHeld ?_
        rotate_left
        · intro wq hSw
          go_simp
          rfl
        try simp only [Act.put, List.setIfInBounds_toArray, List.set_cons_zero, List.set_cons_succ]
        refine wpAnyH_take (i := 5) (oi := { dst := some 15, op := Op.extract (Operand.tmp 10) 1, type := _, pos := _, after := _, guard := _ }) (v := ?_) rfl (by kernel_rfl) (by kernel_rfl) (by kernel_rfl) (fun _ _ _ h => h) (Or.inl ⟨by rfl, ?_⟩) hHeld ?_
        rotate_left
        · intro wq hSw
          go_simp
          rfl
        try simp only [Act.put, List.setIfInBounds_toArray, List.set_cons_zero, List.set_cons_succ]
        refine wpAnyH_ready (rs := [7]) (by kernel_rfl) (by simp) ?_
        refine AllReadyH.cons (o := { dst := none, op := Op.store 25 (Operand.tmp 3) (Operand.tmp 14), type := _, pos := _, after := _, guard := _ }) rfl (fun KK hKK => ?_) AllReadyH.nil
        have hKS := Lib.hid hKK
        clear hKK
        have s7 := St.row w2 g3 (dv A2 n2 c2 E2 m2 f2 (-1))
        have o7 : Nm.Own (w2.setRow g3 (dv A2 n2 c2 E2 m2 f2 (-1))) g3 25 (dv A2 n2 c2 E2 m2 f2 (-1)) := setRow_heap w2 g3 _ _ 25 (0, 0) og
        have hb7 := s7.below hb hg3
        refine st25 (A := A2) (n := n2) (c := c2) (A' := E2) (m := m2) (c' := f2) (l := -1) rfl (.tmp 3) (.tmp 14) rfl (by simp [Act.eval, Act.put]) (by simp [Act.eval, Act.put, D1]) og rfl ?_
        have hp7 := hp.st og s7
        refine hKS.out.out _ _ hb7 (fun hHeld => ?_)
        clear hKS KK s7
        try simp only [Act.put, List.setIfInBounds_toArray, List.set_cons_zero, List.set_cons_succ]
        refine wpAnyH_take (i := 8) (oi := { dst := some 4, op := Op.assign (Operand.tmp 15), type := _, pos := _, after := _, guard := _ }) (v := ?_) rfl (by kernel_rfl) (by kernel_rfl) (by kernel_rfl) (fun _ _ _ h => h) (Or.inl ⟨by rfl, ?_⟩) hHeld ?_
        rotate_left
        · intro wq hSw
          go_simp
          rfl
        try simp only [Act.put, List.setIfInBounds_toArray, List.set_cons_zero, List.set_cons_succ]
        refine wpAnyH_done (by kernel_rfl) ?_ _
        go_wp2_with fail
        go_meet
        case rel => exact ⟨g3, A2, n2, c2, E2, m2, f2, rfl, rfl, o7, hp7, hb7⟩
  case rest =>
    obtain ⟨G, A, n, c, A', m, c', rfl, rfl, od, hz, hb⟩ := hcut
    have gb := grow wc (Obj.cells #[.int .i64 5] 3)
    have hk : Iz (wc.alloc (Obj.cells #[.int .i64 5] 3)) (some ⟨wc.heap.size, 0, none⟩) 1 [5] := by
      refine ⟨rfl, fun _ => ⟨wc.heap.size, 0, rfl, fun i hi => ?_⟩, fun x hx => ?_, by decide⟩
      · obtain rfl : i = 0 := by omega
        exact (Nm.Own.new wc 3 #[.int .i64 5]).cell 0
      · rw [List.mem_singleton.1 hx]; decide
    have hcr := crash_any A n c A' m c' D1 (some ⟨wc.heap.size, 0, none⟩) 1 1 [5] _ (hz.below gb) hk ok_one
    rw [crash_one] at hcr
    have hb1 := hb.trans (gb.mono hb.size)
    have hD1 : D1.left = -1 := rfl
    rw [hD1] at hcr
    have hlen : n = 2 := hz.b.t.1.symm
    subst hlen
    clear hz gb hk
    go_wp2_with (refine ld25 rfl rfl rfl od ?_)
    refine hcr.mono ?_
    rintro e w2 ⟨⟨A1, c1, rfl, hr⟩, hx⟩
    have hb2 := hb1.trans (hx.mono hb1.size)
    have hb3 := hb2.trans ((grow w2 (Obj.cells (dv A1 2 c1 none 0 0 (-1)) 25)).mono hb2.size)
    have o3 := Nm.Own.new w2 25 (dv A1 2 c1 none 0 0 (-1))
    have hr3 := hr.below (grow w2 (Obj.cells (dv A1 2 c1 none 0 0 (-1)) 25))
    obtain ⟨b, off, rfl, hc⟩ := hr3.ts.2 (by decide)
    have x0 := hc 0 (by decide)
    have x1 := hc 1 (by decide)
    have hF : Fx w w2.heap.size b off c1 (Dm.oB.extract 0 64 ++ zs 64) Dm.zB (w2.alloc (Obj.cells (dv (some ⟨b, off, none⟩) 2 c1 none 0 0 (-1)) 25)) := ⟨o3.cell 0, x0, x1, hb3⟩
    have hone := fun w => ones_any w
    have hM6 := fun w => mk50 64 (by omega) w
    have hM1 := fun w => mk50 128 (by omega) w
    have hC6 := fun w g (h : Nm.Own w g 5 (Array.replicate 64 (.int .u8 0))) => conv_zs w g 64 64 h
    have hC1 := fun w g (h : Nm.Own w g 5 (Array.replicate 128 (.int .u8 0))) => conv_zs w g 128 128 h
    rw [zs_zB] at hC1
    rw [show ((64 : Nat) : Int) = 64 from rfl] at hM6
    rw [show ((128 : Nat) : Int) = 128 from rfl] at hM1
    have i1 : (Dm.oB.size : Int) = 128 := by rw [oB_size]; rfl
    have i2 : (64 : Int) ≤ (Dm.oB.size : Int) := by rw [oB_size]; decide
    have y1 : ¬ 9223372036854775807 < (Dm.oB.extract 0 64).size + (zs 64).size := by decide +kernel
    have y2 : ¬ 9223372036854775807 < min 64 Dm.oB.size + (zs 64).size := by decide +kernel
    clear hr hx hb1 hb2 hb3 o3 hr3 hc x0 x1 hcr hb od
    generalize Array.replicate 64 (Value.int .u8 0) = Z6 at *
    generalize Array.replicate 128 (Value.int .u8 0) = Z1 at *
    generalize Dm.zB = ZB at *
    generalize Dm.oB = OB at *
    generalize zs 64 = ZH at *
    go_wp2_with fail
    generalize w2.alloc (Obj.cells (dv (some ⟨b, off, none⟩) 2 c1 none 0 0 (-1)) 25) = V at *
    generalize w2.heap.size = G5 at *
    refine wp_region_held_drew (S := fun w' => Fx w G5 b off c1 (OB.extract 0 64 ++ ZH) ZB w') (by kernel_rfl) hF.drew (fun hHeld => ?_)
    clear hF
    generalize V.drew = V0 at *
    refine wpAnyH_take (i := 0) (oi := { dst := some 25, op := Op.fieldAddr 25 (Operand.tmp 5) 0, type := _, pos := _, after := _, guard := _ }) (v := ?_) rfl (by kernel_rfl) (by kernel_rfl) (by kernel_rfl) (fun _ _ _ h => h) (Or.inl ⟨by rfl, ?_⟩) hHeld ?_
    rotate_left
    · intro wq hSw
      go_simp
      rfl
    try simp only [Act.put, List.setIfInBounds_toArray, List.set_cons_zero, List.set_cons_succ]
    refine wpAnyH_take (i := 1) (oi := { dst := some 26, op := Op.load 22 (Operand.tmp 25), type := _, pos := _, after := _, guard := _ }) (v := ?_) rfl (by kernel_rfl) (by kernel_rfl) (by kernel_rfl) (fun _ _ _ h => h) (Or.inl ⟨by rfl, ?_⟩) hHeld ?_
    rotate_left
    · intro wq hSw
      obtain ⟨r1, r2, r3, r4⟩ := hSw
      go_simp
      rfl
    try simp only [Act.put, List.setIfInBounds_toArray, List.set_cons_zero, List.set_cons_succ]
    refine wpAnyH_take (i := 2) (oi := { dst := some 27, op := Op.call { callee := Callee.builtin Builtin.len, args := #[Operand.tmp 26], argTypes := #[22] }, type := _, pos := _, after := _, guard := _ }) (v := ?_) rfl (by kernel_rfl) (by kernel_rfl) (by kernel_rfl) (fun _ _ _ h => h) (Or.inl ⟨by rfl, ?_⟩) hHeld ?_
    rotate_left
    · intro wq hSw
      go_simp
      rfl
    try simp only [Act.put, List.setIfInBounds_toArray, List.set_cons_zero, List.set_cons_succ]
    refine wpAnyH_take (i := 3) (oi := { dst := some 28, op := Op.binOp BinOp.eql 3 (Operand.tmp 27) (Operand.const (Value.int IntKind.i64 2)) 3, type := _, pos := _, after := _, guard := _ }) (v := ?_) rfl (by kernel_rfl) (by kernel_rfl) (by kernel_rfl) (fun _ _ _ h => h) (Or.inl ⟨by rfl, ?_⟩) hHeld ?_
    rotate_left
    · intro wq hSw
      go_simp
      rfl
    try simp only [Act.put, List.setIfInBounds_toArray, List.set_cons_zero, List.set_cons_succ]
    refine wpAnyH_take (i := 4) (oi := { dst := some 29, op := Op.move (Operand.tmp 28), type := _, pos := _, after := _, guard := _ }) (v := ?_) rfl (by kernel_rfl) (by kernel_rfl) (by kernel_rfl) (fun _ _ _ h => h) (Or.inl ⟨by rfl, ?_⟩) hHeld ?_
    rotate_left
    · intro wq hSw
      go_simp
      rfl
    try simp only [Act.put, List.setIfInBounds_toArray, List.set_cons_zero, List.set_cons_succ]
    refine wpAnyH_take (i := 5) (oi := { dst := some 30, op := Op.fieldAddr 25 (Operand.tmp 5) 0, type := _, pos := _, after := _, guard := _ }) (v := ?_) rfl (by kernel_rfl) (by kernel_rfl) (by kernel_rfl) (fun _ _ _ h => h) (Or.inl ⟨by rfl, ?_⟩) hHeld ?_
    rotate_left
    · intro wq hSw
      go_simp
      rfl
    try simp only [Act.put, List.setIfInBounds_toArray, List.set_cons_zero, List.set_cons_succ]
    refine wpAnyH_take (i := 6) (oi := { dst := some 31, op := Op.load 22 (Operand.tmp 30), type := _, pos := _, after := _, guard := _ }) (v := ?_) rfl (by kernel_rfl) (by kernel_rfl) (by kernel_rfl) (fun _ _ _ h => h) (Or.inl ⟨by rfl, ?_⟩) hHeld ?_
    rotate_left
    · intro wq hSw
      obtain ⟨r1, r2, r3, r4⟩ := hSw
      go_simp
      rfl
    try simp only [Act.put, List.setIfInBounds_toArray, List.set_cons_zero, List.set_cons_succ]
    refine wpAnyH_take (i := 7) (oi := { dst := some 32, op := Op.indexAddr 22 (Operand.tmp 31) (Operand.const (Value.int IntKind.i64 0)), type := _, pos := _, after := _, guard := _ }) (v := ?_) rfl (by kernel_rfl) (by kernel_rfl) (by kernel_rfl) (fun _ _ _ h => h) (Or.inl ⟨by rfl, ?_⟩) hHeld ?_
    rotate_left
    · intro wq hSw
      go_simp
      rfl
    try simp only [Act.put, List.setIfInBounds_toArray, List.set_cons_zero, List.set_cons_succ]
    refine wpAnyH_take (i := 8) (oi := { dst := some 33, op := Op.load 9 (Operand.tmp 32), type := _, pos := _, after := _, guard := _ }) (v := ?_) rfl (by kernel_rfl) (by kernel_rfl) (by kernel_rfl) (fun _ _ _ h => h) (Or.inl ⟨by rfl, ?_⟩) hHeld ?_
    rotate_left
    · intro wq hSw
      obtain ⟨r1, r2, r3, r4⟩ := hSw
      go_simp
      rfl
    try simp only [Act.put, List.setIfInBounds_toArray, List.set_cons_zero, List.set_cons_succ]
    refine wpAnyH_ready (rs := [9, 11]) (by kernel_rfl) (by simp) ?_
    refine AllReadyH.cons (o := { dst := some 34, op := Op.call { callee := Callee.value (Operand.func 24), args := #[], argTypes := #[] }, type := _, pos := _, after := _, guard := _ }) rfl (fun KK hKK => ?_) ?_
    · have hKS := Lib.hid hKK
      clear hKK
      go_simp
      refine (hone _).mono ?_
      rintro e w9 ⟨rfl, hx⟩
      go_wp2_with fail
      try replace ogz := ogz.below hx
      refine hKS.out.out _ _ (hHeld.below hx) (fun hHeld => ?_)
      clear hKS KK hx
      try simp only [Act.put, List.setIfInBounds_toArray, List.set_cons_zero, List.set_cons_succ]
      refine wpAnyH_take (i := 10) (oi := { dst := some 35, op := Op.slice 9 (Operand.tmp 34) none (some (Operand.const (Value.int IntKind.i64 64))) none, type := _, pos := _, after := _, guard := _ }) (v := ?_) rfl (by kernel_rfl) (by kernel_rfl) (by kernel_rfl) (fun _ _ _ h => h) (Or.inl ⟨by rfl, ?_⟩) hHeld ?_
      rotate_left
      · intro wq hSw
        go_simp
        rfl
      try simp only [Act.put, List.setIfInBounds_toArray, List.set_cons_zero, List.set_cons_succ]
      refine wpAnyH_ready (rs := [11]) (by kernel_rfl) (by simp) ?_
      refine AllReadyH.cons (o := { dst := some 36, op := Op.makeSlice 50 (Operand.const (Value.int IntKind.i64 64)) (Operand.const (Value.int IntKind.i64 64)), type := _, pos := _, after := _, guard := _ }) rfl (fun KK hKK => ?_) AllReadyH.nil
      have hKS := Lib.hid hKK
      clear hKK
      have hmk := hM6 w9
      have ogz := Nm.Own.new w9 5 Z6
      have hx := grow w9 (Obj.cells Z6 5)
      go_simp
      refine hKS.out.out _ _ (hHeld.below hx) (fun hHeld => ?_)
      clear hKS KK hmk hx
      generalize World.alloc w9 (Obj.cells Z6 5) = V11 at *
      generalize w9.heap.size = gz at *
      try simp only [Act.put, List.setIfInBounds_toArray, List.set_cons_zero, List.set_cons_succ]
      refine wpAnyH_ready (rs := [12]) (by kernel_rfl) (by simp) ?_
      refine AllReadyH.cons (o := { dst := some 37, op := Op.convert 50 9 (Operand.tmp 36), type := _, pos := _, after := _, guard := _ }) rfl (fun KK hKK => ?_) AllReadyH.nil
      have hKS := Lib.hid hKK
      clear hKK
      have hcv := hC6 V11 gz ogz
      go_simp
      refine hKS.out.out _ _ hHeld (fun hHeld => ?_)
      clear hKS KK hcv ogz
      try simp only [Act.put, List.setIfInBounds_toArray, List.set_cons_zero, List.set_cons_succ]
      refine wpAnyH_take (i := 13) (oi := { dst := some 38, op := Op.binOp BinOp.add 9 (Operand.tmp 35) (Operand.tmp 37) 9, type := _, pos := _, after := _, guard := _ }) (v := ?_) rfl (by kernel_rfl) (by kernel_rfl) (by kernel_rfl) (fun _ _ _ h => h) (Or.inl ⟨by rfl, ?_⟩) hHeld ?_
      rotate_left
      · intro wq hSw
        go_simp
        rfl
      try simp only [Act.put, List.setIfInBounds_toArray, List.set_cons_zero, List.set_cons_succ]
      refine wpAnyH_take (i := 14) (oi := { dst := some 39, op := Op.binOp BinOp.eql 9 (Operand.tmp 33) (Operand.tmp 38) 9, type := _, pos := _, after := _, guard := _ }) (v := ?_) rfl (by kernel_rfl) (by kernel_rfl) (by kernel_rfl) (fun _ _ _ h => h) (Or.inl ⟨by rfl, ?_⟩) hHeld ?_
      rotate_left
      · intro wq hSw
        go_simp
        rfl
      try simp only [Act.put, List.setIfInBounds_toArray, List.set_cons_zero, List.set_cons_succ]
      refine wpAnyH_take (i := 15) (oi := { dst := some 40, op := Op.pick (Operand.tmp 29) (Operand.tmp 39) (Operand.const (Value.bool false)), type := _, pos := _, after := _, guard := _ }) (v := ?_) rfl (by kernel_rfl) (by kernel_rfl) (by kernel_rfl) (fun _ _ _ h => h) (Or.inl ⟨by rfl, ?_⟩) hHeld ?_
      rotate_left
      · intro wq hSw
        go_simp
        rfl
      try simp only [Act.put, List.setIfInBounds_toArray, List.set_cons_zero, List.set_cons_succ]
      refine wpAnyH_take (i := 16) (oi := { dst := some 41, op := Op.move (Operand.tmp 40), type := _, pos := _, after := _, guard := _ }) (v := ?_) rfl (by kernel_rfl) (by kernel_rfl) (by kernel_rfl) (fun _ _ _ h => h) (Or.inl ⟨by rfl, ?_⟩) hHeld ?_
      rotate_left
      · intro wq hSw
        go_simp
        rfl
      try simp only [Act.put, List.setIfInBounds_toArray, List.set_cons_zero, List.set_cons_succ]
      refine wpAnyH_take (i := 17) (oi := { dst := some 42, op := Op.fieldAddr 25 (Operand.tmp 5) 0, type := _, pos := _, after := _, guard := _ }) (v := ?_) rfl (by kernel_rfl) (by kernel_rfl) (by kernel_rfl) (fun _ _ _ h => h) (Or.inl ⟨by rfl, ?_⟩) hHeld ?_
      rotate_left
      · intro wq hSw
        go_simp
        rfl
      try simp only [Act.put, List.setIfInBounds_toArray, List.set_cons_zero, List.set_cons_succ]
      refine wpAnyH_take (i := 18) (oi := { dst := some 43, op := Op.load 22 (Operand.tmp 42), type := _, pos := _, after := _, guard := _ }) (v := ?_) rfl (by kernel_rfl) (by kernel_rfl) (by kernel_rfl) (fun _ _ _ h => h) (Or.inl ⟨by rfl, ?_⟩) hHeld ?_
      rotate_left
      · intro wq hSw
        obtain ⟨r1, r2, r3, r4⟩ := hSw
        go_simp
        rfl
      try simp only [Act.put, List.setIfInBounds_toArray, List.set_cons_zero, List.set_cons_succ]
      refine wpAnyH_take (i := 19) (oi := { dst := some 44, op := Op.indexAddr 22 (Operand.tmp 43) (Operand.const (Value.int IntKind.i64 1)), type := _, pos := _, after := _, guard := _ }) (v := ?_) rfl (by kernel_rfl) (by kernel_rfl) (by kernel_rfl) (fun _ _ _ h => h) (Or.inl ⟨by rfl, ?_⟩) hHeld ?_
      rotate_left
      · intro wq hSw
        go_simp
        rfl
      try simp only [Act.put, List.setIfInBounds_toArray, List.set_cons_zero, List.set_cons_succ]
      refine wpAnyH_take (i := 20) (oi := { dst := some 45, op := Op.load 9 (Operand.tmp 44), type := _, pos := _, after := _, guard := _ }) (v := ?_) rfl (by kernel_rfl) (by kernel_rfl) (by kernel_rfl) (fun _ _ _ h => h) (Or.inl ⟨by rfl, ?_⟩) hHeld ?_
      rotate_left
      · intro wq hSw
        obtain ⟨r1, r2, r3, r4⟩ := hSw
        go_simp
        rfl
      try simp only [Act.put, List.setIfInBounds_toArray, List.set_cons_zero, List.set_cons_succ]
      refine wpAnyH_ready (rs := [21]) (by kernel_rfl) (by simp) ?_
      refine AllReadyH.cons (o := { dst := some 46, op := Op.makeSlice 50 (Operand.const (Value.int IntKind.i64 128)) (Operand.const (Value.int IntKind.i64 128)), type := _, pos := _, after := _, guard := _ }) rfl (fun KK hKK => ?_) AllReadyH.nil
      have hKS := Lib.hid hKK
      clear hKK
      have hmk := hM1 V11
      have ogy := Nm.Own.new V11 5 Z1
      have hx := grow V11 (Obj.cells Z1 5)
      go_simp
      refine hKS.out.out _ _ (hHeld.below hx) (fun hHeld => ?_)
      clear hKS KK hmk hx
      generalize World.alloc V11 (Obj.cells Z1 5) = V21 at *
      generalize V11.heap.size = gy at *
      try simp only [Act.put, List.setIfInBounds_toArray, List.set_cons_zero, List.set_cons_succ]
      refine wpAnyH_ready (rs := [22]) (by kernel_rfl) (by simp) ?_
      refine AllReadyH.cons (o := { dst := some 47, op := Op.convert 50 9 (Operand.tmp 46), type := _, pos := _, after := _, guard := _ }) rfl (fun KK hKK => ?_) AllReadyH.nil
      have hKS := Lib.hid hKK
      clear hKK
      have hcv := hC1 V21 gy ogy
      go_simp
      refine hKS.out.out _ _ hHeld (fun hHeld => ?_)
      clear hKS KK hcv ogy
      try simp only [Act.put, List.setIfInBounds_toArray, List.set_cons_zero, List.set_cons_succ]
      refine wpAnyH_take (i := 23) (oi := { dst := some 48, op := Op.binOp BinOp.eql 9 (Operand.tmp 45) (Operand.tmp 47) 9, type := _, pos := _, after := _, guard := _ }) (v := ?_) rfl (by kernel_rfl) (by kernel_rfl) (by kernel_rfl) (fun _ _ _ h => h) (Or.inl ⟨by rfl, ?_⟩) hHeld ?_
      rotate_left
      · intro wq hSw
        go_simp
        rfl
      try simp only [Act.put, List.setIfInBounds_toArray, List.set_cons_zero, List.set_cons_succ]
      refine wpAnyH_take (i := 24) (oi := { dst := some 49, op := Op.pick (Operand.tmp 41) (Operand.tmp 48) (Operand.const (Value.bool false)), type := _, pos := _, after := _, guard := _ }) (v := ?_) rfl (by kernel_rfl) (by kernel_rfl) (by kernel_rfl) (fun _ _ _ h => h) (Or.inl ⟨by rfl, ?_⟩) hHeld ?_
      rotate_left
      · intro wq hSw
        go_simp
        rfl
      try simp only [Act.put, List.setIfInBounds_toArray, List.set_cons_zero, List.set_cons_succ]
      refine wpAnyH_take (i := 25) (oi := { dst := some 0, op := Op.assign (Operand.tmp 49), type := _, pos := _, after := _, guard := _ }) (v := ?_) rfl (by kernel_rfl) (by kernel_rfl) (by kernel_rfl) (fun _ _ _ h => h) (Or.inl ⟨by rfl, ?_⟩) hHeld ?_
      rotate_left
      · intro wq hSw
        go_simp
        rfl
      try simp only [Act.put, List.setIfInBounds_toArray, List.set_cons_zero, List.set_cons_succ]
      refine wpAnyH_done (by kernel_rfl) ?_ _
      go_wp2_with fail
      go_ret
      exact ⟨rfl, hHeld.l⟩
    refine AllReadyH.cons (o := { dst := some 36, op := Op.makeSlice 50 (Operand.const (Value.int IntKind.i64 64)) (Operand.const (Value.int IntKind.i64 64)), type := _, pos := _, after := _, guard := _ }) rfl (fun KK hKK => ?_) AllReadyH.nil
    · have hKS := Lib.hid hKK
      clear hKK
      have hmk := hM6 V0
      have ogz := Nm.Own.new V0 5 Z6
      have hx := grow V0 (Obj.cells Z6 5)
      go_simp
      refine hKS.out.out _ _ (hHeld.below hx) (fun hHeld => ?_)
      clear hKS KK hmk hx
      generalize World.alloc V0 (Obj.cells Z6 5) = V11 at *
      generalize V0.heap.size = gz at *
      try simp only [Act.put, List.setIfInBounds_toArray, List.set_cons_zero, List.set_cons_succ]
      refine wpAnyH_ready (rs := [9, 12]) (by kernel_rfl) (by simp) ?_
      refine AllReadyH.cons (o := { dst := some 34, op := Op.call { callee := Callee.value (Operand.func 24), args := #[], argTypes := #[] }, type := _, pos := _, after := _, guard := _ }) rfl (fun KK hKK => ?_) ?_
      · have hKS := Lib.hid hKK
        clear hKK
        go_simp
        refine (hone _).mono ?_
        rintro e w9 ⟨rfl, hx⟩
        go_wp2_with fail
        try replace ogz := ogz.below hx
        refine hKS.out.out _ _ (hHeld.below hx) (fun hHeld => ?_)
        clear hKS KK hx
        try simp only [Act.put, List.setIfInBounds_toArray, List.set_cons_zero, List.set_cons_succ]
        refine wpAnyH_take (i := 10) (oi := { dst := some 35, op := Op.slice 9 (Operand.tmp 34) none (some (Operand.const (Value.int IntKind.i64 64))) none, type := _, pos := _, after := _, guard := _ }) (v := ?_) rfl (by kernel_rfl) (by kernel_rfl) (by kernel_rfl) (fun _ _ _ h => h) (Or.inl ⟨by rfl, ?_⟩) hHeld ?_
        rotate_left
        · intro wq hSw
          go_simp
          rfl
        try simp only [Act.put, List.setIfInBounds_toArray, List.set_cons_zero, List.set_cons_succ]
        refine wpAnyH_ready (rs := [12]) (by kernel_rfl) (by simp) ?_
        refine AllReadyH.cons (o := { dst := some 37, op := Op.convert 50 9 (Operand.tmp 36), type := _, pos := _, after := _, guard := _ }) rfl (fun KK hKK => ?_) AllReadyH.nil
        have hKS := Lib.hid hKK
        clear hKK
        have hcv := hC6 w9 gz ogz
        go_simp
        refine hKS.out.out _ _ hHeld (fun hHeld => ?_)
        clear hKS KK hcv ogz
        try simp only [Act.put, List.setIfInBounds_toArray, List.set_cons_zero, List.set_cons_succ]
        refine wpAnyH_take (i := 13) (oi := { dst := some 38, op := Op.binOp BinOp.add 9 (Operand.tmp 35) (Operand.tmp 37) 9, type := _, pos := _, after := _, guard := _ }) (v := ?_) rfl (by kernel_rfl) (by kernel_rfl) (by kernel_rfl) (fun _ _ _ h => h) (Or.inl ⟨by rfl, ?_⟩) hHeld ?_
        rotate_left
        · intro wq hSw
          go_simp
          rfl
        try simp only [Act.put, List.setIfInBounds_toArray, List.set_cons_zero, List.set_cons_succ]
        refine wpAnyH_take (i := 14) (oi := { dst := some 39, op := Op.binOp BinOp.eql 9 (Operand.tmp 33) (Operand.tmp 38) 9, type := _, pos := _, after := _, guard := _ }) (v := ?_) rfl (by kernel_rfl) (by kernel_rfl) (by kernel_rfl) (fun _ _ _ h => h) (Or.inl ⟨by rfl, ?_⟩) hHeld ?_
        rotate_left
        · intro wq hSw
          go_simp
          rfl
        try simp only [Act.put, List.setIfInBounds_toArray, List.set_cons_zero, List.set_cons_succ]
        refine wpAnyH_take (i := 15) (oi := { dst := some 40, op := Op.pick (Operand.tmp 29) (Operand.tmp 39) (Operand.const (Value.bool false)), type := _, pos := _, after := _, guard := _ }) (v := ?_) rfl (by kernel_rfl) (by kernel_rfl) (by kernel_rfl) (fun _ _ _ h => h) (Or.inl ⟨by rfl, ?_⟩) hHeld ?_
        rotate_left
        · intro wq hSw
          go_simp
          rfl
        try simp only [Act.put, List.setIfInBounds_toArray, List.set_cons_zero, List.set_cons_succ]
        refine wpAnyH_take (i := 16) (oi := { dst := some 41, op := Op.move (Operand.tmp 40), type := _, pos := _, after := _, guard := _ }) (v := ?_) rfl (by kernel_rfl) (by kernel_rfl) (by kernel_rfl) (fun _ _ _ h => h) (Or.inl ⟨by rfl, ?_⟩) hHeld ?_
        rotate_left
        · intro wq hSw
          go_simp
          rfl
        try simp only [Act.put, List.setIfInBounds_toArray, List.set_cons_zero, List.set_cons_succ]
        refine wpAnyH_take (i := 17) (oi := { dst := some 42, op := Op.fieldAddr 25 (Operand.tmp 5) 0, type := _, pos := _, after := _, guard := _ }) (v := ?_) rfl (by kernel_rfl) (by kernel_rfl) (by kernel_rfl) (fun _ _ _ h => h) (Or.inl ⟨by rfl, ?_⟩) hHeld ?_
        rotate_left
        · intro wq hSw
          go_simp
          rfl
        try simp only [Act.put, List.setIfInBounds_toArray, List.set_cons_zero, List.set_cons_succ]
        refine wpAnyH_take (i := 18) (oi := { dst := some 43, op := Op.load 22 (Operand.tmp 42), type := _, pos := _, after := _, guard := _ }) (v := ?_) rfl (by kernel_rfl) (by kernel_rfl) (by kernel_rfl) (fun _ _ _ h => h) (Or.inl ⟨by rfl, ?_⟩) hHeld ?_
        rotate_left
        · intro wq hSw
          obtain ⟨r1, r2, r3, r4⟩ := hSw
          go_simp
          rfl
        try simp only [Act.put, List.setIfInBounds_toArray, List.set_cons_zero, List.set_cons_succ]
        refine wpAnyH_take (i := 19) (oi := { dst := some 44, op := Op.indexAddr 22 (Operand.tmp 43) (Operand.const (Value.int IntKind.i64 1)), type := _, pos := _, after := _, guard := _ }) (v := ?_) rfl (by kernel_rfl) (by kernel_rfl) (by kernel_rfl) (fun _ _ _ h => h) (Or.inl ⟨by rfl, ?_⟩) hHeld ?_
        rotate_left
        · intro wq hSw
          go_simp
          rfl
        try simp only [Act.put, List.setIfInBounds_toArray, List.set_cons_zero, List.set_cons_succ]
        refine wpAnyH_take (i := 20) (oi := { dst := some 45, op := Op.load 9 (Operand.tmp 44), type := _, pos := _, after := _, guard := _ }) (v := ?_) rfl (by kernel_rfl) (by kernel_rfl) (by kernel_rfl) (fun _ _ _ h => h) (Or.inl ⟨by rfl, ?_⟩) hHeld ?_
        rotate_left
        · intro wq hSw
          obtain ⟨r1, r2, r3, r4⟩ := hSw
          go_simp
          rfl
        try simp only [Act.put, List.setIfInBounds_toArray, List.set_cons_zero, List.set_cons_succ]
        refine wpAnyH_ready (rs := [21]) (by kernel_rfl) (by simp) ?_
        refine AllReadyH.cons (o := { dst := some 46, op := Op.makeSlice 50 (Operand.const (Value.int IntKind.i64 128)) (Operand.const (Value.int IntKind.i64 128)), type := _, pos := _, after := _, guard := _ }) rfl (fun KK hKK => ?_) AllReadyH.nil
        have hKS := Lib.hid hKK
        clear hKK
        have hmk := hM1 w9
        have ogy := Nm.Own.new w9 5 Z1
        have hx := grow w9 (Obj.cells Z1 5)
        go_simp
        refine hKS.out.out _ _ (hHeld.below hx) (fun hHeld => ?_)
        clear hKS KK hmk hx
        generalize World.alloc w9 (Obj.cells Z1 5) = V21 at *
        generalize w9.heap.size = gy at *
        try simp only [Act.put, List.setIfInBounds_toArray, List.set_cons_zero, List.set_cons_succ]
        refine wpAnyH_ready (rs := [22]) (by kernel_rfl) (by simp) ?_
        refine AllReadyH.cons (o := { dst := some 47, op := Op.convert 50 9 (Operand.tmp 46), type := _, pos := _, after := _, guard := _ }) rfl (fun KK hKK => ?_) AllReadyH.nil
        have hKS := Lib.hid hKK
        clear hKK
        have hcv := hC1 V21 gy ogy
        go_simp
        refine hKS.out.out _ _ hHeld (fun hHeld => ?_)
        clear hKS KK hcv ogy
        try simp only [Act.put, List.setIfInBounds_toArray, List.set_cons_zero, List.set_cons_succ]
        refine wpAnyH_take (i := 23) (oi := { dst := some 48, op := Op.binOp BinOp.eql 9 (Operand.tmp 45) (Operand.tmp 47) 9, type := _, pos := _, after := _, guard := _ }) (v := ?_) rfl (by kernel_rfl) (by kernel_rfl) (by kernel_rfl) (fun _ _ _ h => h) (Or.inl ⟨by rfl, ?_⟩) hHeld ?_
        rotate_left
        · intro wq hSw
          go_simp
          rfl
        try simp only [Act.put, List.setIfInBounds_toArray, List.set_cons_zero, List.set_cons_succ]
        refine wpAnyH_take (i := 24) (oi := { dst := some 49, op := Op.pick (Operand.tmp 41) (Operand.tmp 48) (Operand.const (Value.bool false)), type := _, pos := _, after := _, guard := _ }) (v := ?_) rfl (by kernel_rfl) (by kernel_rfl) (by kernel_rfl) (fun _ _ _ h => h) (Or.inl ⟨by rfl, ?_⟩) hHeld ?_
        rotate_left
        · intro wq hSw
          go_simp
          rfl
        try simp only [Act.put, List.setIfInBounds_toArray, List.set_cons_zero, List.set_cons_succ]
        refine wpAnyH_take (i := 25) (oi := { dst := some 0, op := Op.assign (Operand.tmp 49), type := _, pos := _, after := _, guard := _ }) (v := ?_) rfl (by kernel_rfl) (by kernel_rfl) (by kernel_rfl) (fun _ _ _ h => h) (Or.inl ⟨by rfl, ?_⟩) hHeld ?_
        rotate_left
        · intro wq hSw
          go_simp
          rfl
        try simp only [Act.put, List.setIfInBounds_toArray, List.set_cons_zero, List.set_cons_succ]
        refine wpAnyH_done (by kernel_rfl) ?_ _
        go_wp2_with fail
        go_ret
        exact ⟨rfl, hHeld.l⟩
      refine AllReadyH.cons (o := { dst := some 37, op := Op.convert 50 9 (Operand.tmp 36), type := _, pos := _, after := _, guard := _ }) rfl (fun KK hKK => ?_) AllReadyH.nil
      · have hKS := Lib.hid hKK
        clear hKK
        have hcv := hC6 V11 gz ogz
        go_simp
        refine hKS.out.out _ _ hHeld (fun hHeld => ?_)
        clear hKS KK hcv ogz
        try simp only [Act.put, List.setIfInBounds_toArray, List.set_cons_zero, List.set_cons_succ]
        refine wpAnyH_ready (rs := [9]) (by kernel_rfl) (by simp) ?_
        refine AllReadyH.cons (o := { dst := some 34, op := Op.call { callee := Callee.value (Operand.func 24), args := #[], argTypes := #[] }, type := _, pos := _, after := _, guard := _ }) rfl (fun KK hKK => ?_) AllReadyH.nil
        have hKS := Lib.hid hKK
        clear hKK
        go_simp
        refine (hone _).mono ?_
        rintro e w9 ⟨rfl, hx⟩
        go_wp2_with fail
        try replace ogz := ogz.below hx
        refine hKS.out.out _ _ (hHeld.below hx) (fun hHeld => ?_)
        clear hKS KK hx
        try simp only [Act.put, List.setIfInBounds_toArray, List.set_cons_zero, List.set_cons_succ]
        refine wpAnyH_take (i := 10) (oi := { dst := some 35, op := Op.slice 9 (Operand.tmp 34) none (some (Operand.const (Value.int IntKind.i64 64))) none, type := _, pos := _, after := _, guard := _ }) (v := ?_) rfl (by kernel_rfl) (by kernel_rfl) (by kernel_rfl) (fun _ _ _ h => h) (Or.inl ⟨by rfl, ?_⟩) hHeld ?_
        rotate_left
        · intro wq hSw
          go_simp
          rfl
        try simp only [Act.put, List.setIfInBounds_toArray, List.set_cons_zero, List.set_cons_succ]
        refine wpAnyH_take (i := 13) (oi := { dst := some 38, op := Op.binOp BinOp.add 9 (Operand.tmp 35) (Operand.tmp 37) 9, type := _, pos := _, after := _, guard := _ }) (v := ?_) rfl (by kernel_rfl) (by kernel_rfl) (by kernel_rfl) (fun _ _ _ h => h) (Or.inl ⟨by rfl, ?_⟩) hHeld ?_
        rotate_left
        · intro wq hSw
          go_simp
          rfl
        try simp only [Act.put, List.setIfInBounds_toArray, List.set_cons_zero, List.set_cons_succ]
        refine wpAnyH_take (i := 14) (oi := { dst := some 39, op := Op.binOp BinOp.eql 9 (Operand.tmp 33) (Operand.tmp 38) 9, type := _, pos := _, after := _, guard := _ }) (v := ?_) rfl (by kernel_rfl) (by kernel_rfl) (by kernel_rfl) (fun _ _ _ h => h) (Or.inl ⟨by rfl, ?_⟩) hHeld ?_
        rotate_left
        · intro wq hSw
          go_simp
          rfl
        try simp only [Act.put, List.setIfInBounds_toArray, List.set_cons_zero, List.set_cons_succ]
        refine wpAnyH_take (i := 15) (oi := { dst := some 40, op := Op.pick (Operand.tmp 29) (Operand.tmp 39) (Operand.const (Value.bool false)), type := _, pos := _, after := _, guard := _ }) (v := ?_) rfl (by kernel_rfl) (by kernel_rfl) (by kernel_rfl) (fun _ _ _ h => h) (Or.inl ⟨by rfl, ?_⟩) hHeld ?_
        rotate_left
        · intro wq hSw
          go_simp
          rfl
        try simp only [Act.put, List.setIfInBounds_toArray, List.set_cons_zero, List.set_cons_succ]
        refine wpAnyH_take (i := 16) (oi := { dst := some 41, op := Op.move (Operand.tmp 40), type := _, pos := _, after := _, guard := _ }) (v := ?_) rfl (by kernel_rfl) (by kernel_rfl) (by kernel_rfl) (fun _ _ _ h => h) (Or.inl ⟨by rfl, ?_⟩) hHeld ?_
        rotate_left
        · intro wq hSw
          go_simp
          rfl
        try simp only [Act.put, List.setIfInBounds_toArray, List.set_cons_zero, List.set_cons_succ]
        refine wpAnyH_take (i := 17) (oi := { dst := some 42, op := Op.fieldAddr 25 (Operand.tmp 5) 0, type := _, pos := _, after := _, guard := _ }) (v := ?_) rfl (by kernel_rfl) (by kernel_rfl) (by kernel_rfl) (fun _ _ _ h => h) (Or.inl ⟨by rfl, ?_⟩) hHeld ?_
        rotate_left
        · intro wq hSw
          go_simp
          rfl
        try simp only [Act.put, List.setIfInBounds_toArray, List.set_cons_zero, List.set_cons_succ]
        refine wpAnyH_take (i := 18) (oi := { dst := some 43, op := Op.load 22 (Operand.tmp 42), type := _, pos := _, after := _, guard := _ }) (v := ?_) rfl (by kernel_rfl) (by kernel_rfl) (by kernel_rfl) (fun _ _ _ h => h) (Or.inl ⟨by rfl, ?_⟩) hHeld ?_
        rotate_left
        · intro wq hSw
          obtain ⟨r1, r2, r3, r4⟩ := hSw
          go_simp
          rfl
        try simp only [Act.put, List.setIfInBounds_toArray, List.set_cons_zero, List.set_cons_succ]
        refine wpAnyH_take (i := 19) (oi := { dst := some 44, op := Op.indexAddr 22 (Operand.tmp 43) (Operand.const (Value.int IntKind.i64 1)), type := _, pos := _, after := _, guard := _ }) (v := ?_) rfl (by kernel_rfl) (by kernel_rfl) (by kernel_rfl) (fun _ _ _ h => h) (Or.inl ⟨by rfl, ?_⟩) hHeld ?_
        rotate_left
        · intro wq hSw
          go_simp
          rfl
        try simp only [Act.put, List.setIfInBounds_toArray, List.set_cons_zero, List.set_cons_succ]
        refine wpAnyH_take (i := 20) (oi := { dst := some 45, op := Op.load 9 (Operand.tmp 44), type := _, pos := _, after := _, guard := _ }) (v := ?_) rfl (by kernel_rfl) (by kernel_rfl) (by kernel_rfl) (fun _ _ _ h => h) (Or.inl ⟨by rfl, ?_⟩) hHeld ?_
        rotate_left
        · intro wq hSw
          obtain ⟨r1, r2, r3, r4⟩ := hSw
          go_simp
          rfl
        try simp only [Act.put, List.setIfInBounds_toArray, List.set_cons_zero, List.set_cons_succ]
        refine wpAnyH_ready (rs := [21]) (by kernel_rfl) (by simp) ?_
        refine AllReadyH.cons (o := { dst := some 46, op := Op.makeSlice 50 (Operand.const (Value.int IntKind.i64 128)) (Operand.const (Value.int IntKind.i64 128)), type := _, pos := _, after := _, guard := _ }) rfl (fun KK hKK => ?_) AllReadyH.nil
        have hKS := Lib.hid hKK
        clear hKK
        have hmk := hM1 w9
        have ogy := Nm.Own.new w9 5 Z1
        have hx := grow w9 (Obj.cells Z1 5)
        go_simp
        refine hKS.out.out _ _ (hHeld.below hx) (fun hHeld => ?_)
        clear hKS KK hmk hx
        generalize World.alloc w9 (Obj.cells Z1 5) = V21 at *
        generalize w9.heap.size = gy at *
        try simp only [Act.put, List.setIfInBounds_toArray, List.set_cons_zero, List.set_cons_succ]
        refine wpAnyH_ready (rs := [22]) (by kernel_rfl) (by simp) ?_
        refine AllReadyH.cons (o := { dst := some 47, op := Op.convert 50 9 (Operand.tmp 46), type := _, pos := _, after := _, guard := _ }) rfl (fun KK hKK => ?_) AllReadyH.nil
        have hKS := Lib.hid hKK
        clear hKK
        have hcv := hC1 V21 gy ogy
        go_simp
        refine hKS.out.out _ _ hHeld (fun hHeld => ?_)
        clear hKS KK hcv ogy
        try simp only [Act.put, List.setIfInBounds_toArray, List.set_cons_zero, List.set_cons_succ]
        refine wpAnyH_take (i := 23) (oi := { dst := some 48, op := Op.binOp BinOp.eql 9 (Operand.tmp 45) (Operand.tmp 47) 9, type := _, pos := _, after := _, guard := _ }) (v := ?_) rfl (by kernel_rfl) (by kernel_rfl) (by kernel_rfl) (fun _ _ _ h => h) (Or.inl ⟨by rfl, ?_⟩) hHeld ?_
        rotate_left
        · intro wq hSw
          go_simp
          rfl
        try simp only [Act.put, List.setIfInBounds_toArray, List.set_cons_zero, List.set_cons_succ]
        refine wpAnyH_take (i := 24) (oi := { dst := some 49, op := Op.pick (Operand.tmp 41) (Operand.tmp 48) (Operand.const (Value.bool false)), type := _, pos := _, after := _, guard := _ }) (v := ?_) rfl (by kernel_rfl) (by kernel_rfl) (by kernel_rfl) (fun _ _ _ h => h) (Or.inl ⟨by rfl, ?_⟩) hHeld ?_
        rotate_left
        · intro wq hSw
          go_simp
          rfl
        try simp only [Act.put, List.setIfInBounds_toArray, List.set_cons_zero, List.set_cons_succ]
        refine wpAnyH_take (i := 25) (oi := { dst := some 0, op := Op.assign (Operand.tmp 49), type := _, pos := _, after := _, guard := _ }) (v := ?_) rfl (by kernel_rfl) (by kernel_rfl) (by kernel_rfl) (fun _ _ _ h => h) (Or.inl ⟨by rfl, ?_⟩) hHeld ?_
        rotate_left
        · intro wq hSw
          go_simp
          rfl
        try simp only [Act.put, List.setIfInBounds_toArray, List.set_cons_zero, List.set_cons_succ]
        refine wpAnyH_done (by kernel_rfl) ?_ _
        go_wp2_with fail
        go_ret
        exact ⟨rfl, hHeld.l⟩
end Dw
end Go.Proofs.Ytmolbliooaofbaa
