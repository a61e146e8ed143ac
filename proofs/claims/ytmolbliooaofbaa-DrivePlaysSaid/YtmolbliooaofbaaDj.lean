/-
  THE WALK of the document's New.
-/
import Derived.Test.YtmolbliooaofbaaDi
namespace Go.Proofs.Ytmolbliooaofbaa
set_option linter.unusedVariables false
set_option maxRecDepth 100000
set_option linter.unusedSimpArgs false
open Go.RowKit
namespace Dw
open _root_.Go.Proofs.Ytmolbliooaofbaa.Nm
open Dm (Wr wnth)
set_option maxHeartbeats 2000000 in
theorem rnew_any (n : Int) (w : World) (h0 : -9223372036854775808 ≤ n) (h1 : n ≤ 9223372036854775807) :
    Calls Try.prog 12 #[.int .i64 n] w fun e w' => AnsIs (Dm.newM n) e w' ∧ Below w.heap.size w w' := by
  have hb := grow w (Obj.cells (dv none 0 0 none 0 0 0) 25)
  have o := Nm.Own.new w 25 (dv none 0 0 none 0 0 0)
  by_cases hn : 0 ≤ n ∧ n ≤ 256
  · obtain ⟨q, rfl⟩ := Int.eq_ofNat_of_zero_le hn.1
    have HN := Lib.hid (show Dm.newM (q : Int) = (⟨List.replicate q Dm.zB, [], -1⟩, 0) by unfold Dm.newM; rw [if_pos hn, Int.toNat_natCast])
    have t1 : ¬ (q : Int) < 0 := by omega
    have t2 : ¬ (256 : Int) < (q : Int) := by omega
    have hq : q ≤ 256 := by omega
    have hMK := fun w => mk50 128 (by omega) w
    have hCV := fun w g (h : Nm.Own w g 5 (Array.replicate 128 (.int .u8 0))) => conv_zs w g 128 128 h
    rw [zs_zB] at hCV
    rw [show ((128 : Nat) : Int) = 128 from rfl] at hMK
    generalize hZ : (Array.replicate 128 (Value.int .u8 0)) = Z at *
    generalize hZB : Dm.zB = ZB at *
    have ob0 := B2.box ⟨o, hb⟩ (dv none 0 0 none 0 0 (-1)) (by simp)
    clear hn o hb hZ hZB
    go_enter Try.func12, Try.ntmps12
    go_wp2_with fail
    go_loopw [5] (fun i wr => ∃ (k : Nat) (R : Option Addr) (cap : Nat), k ≤ q ∧ i = .int .i64 k ∧ B2 w (dv none 0 0 none 0 0 0) (dv R k cap none 0 0 (-1)) wr ∧ RS wr (w.heap.size + 2) R k cap (List.replicate k ZB)) (fun i _ => q - (intOf i).toNat)
    case atStart => exact ⟨0, none, 0, Nat.zero_le _, rfl, ob0, RS.nil _ _⟩
    case round =>
      clear ob0
      obtain ⟨k, R, cap, hk, rfl, ob, hR⟩ := hrel
      by_cases hlt : k < q
      · have hlt' : (k : Int) < (q : Int) := by omega
        have HREP := Lib.hid (show List.replicate (k + 1) ZB = List.replicate k ZB ++ [ZB] from List.replicate_succ')
        go_wp2_with fail
        refine wp_region_held_drew (S := fun w' => Below w.heap.size w w') (by kernel_rfl) ob.b.drew (fun hHeld => ?_)
        replace ob := ob.dr (Dr.refl wr).drew
        replace hR := hR.dr (Dr.refl wr).drew
        generalize wr.drew = V0 at *
        refine wpAnyH_take (i := 0) (oi := { dst := some 19, op := Op.fieldAddr 25 (Operand.tmp 4) 0, type := _, pos := _, after := _, guard := _ }) (v := ?_) rfl (by kernel_rfl) (by kernel_rfl) (by kernel_rfl) (fun _ _ _ h => h) (Or.inl ⟨by rfl, ?_⟩) hHeld ?_
        rotate_left
        · intro wq hSw
          go_simp
          rfl
        try simp only [Act.put, List.setIfInBounds_toArray, List.set_cons_zero, List.set_cons_succ]
        refine wpAnyH_ready (rs := [1, 2]) (by kernel_rfl) (by simp) ?_
        refine AllReadyH.cons (o := { dst := some 20, op := Op.load 22 (Operand.tmp 19), type := _, pos := _, after := _, guard := _ }) rfl (fun KK hKK => ?_) ?_
        · have hKS := Lib.hid hKK
          clear hKK
          have d0 := ob.q.cell 0
          simp only [List.getElem?_toArray, List.getElem?_cons_zero] at d0
          go_simp
          refine hKS.out.out _ _ ob.b (fun hHeld => ?_)
          clear hKS KK d0
          try simp only [Act.put, List.setIfInBounds_toArray, List.set_cons_zero, List.set_cons_succ]
          refine wpAnyH_ready (rs := [2]) (by kernel_rfl) (by simp) ?_
          refine AllReadyH.cons (o := { dst := some 21, op := Op.makeSlice 50 (Operand.const (Value.int IntKind.i64 128)) (Operand.const (Value.int IntKind.i64 128)), type := _, pos := _, after := _, guard := _ }) rfl (fun KK hKK => ?_) AllReadyH.nil
          have hKS := Lib.hid hKK
          clear hKK
          have hmk := hMK V0
          have oz := Nm.Own.new V0 5 Z
          have gb := grow V0 (Obj.cells Z 5)
          go_simp
          replace ob := ob.below gb
          replace hR := hR.below gb
          refine hKS.out.out _ _ ob.b (fun hHeld => ?_)
          clear hKS KK hmk
          clear gb
          generalize World.alloc V0 (Obj.cells Z 5) = W2 at *
          generalize V0.heap.size = gz at *
          try simp only [Act.put, List.setIfInBounds_toArray, List.set_cons_zero, List.set_cons_succ]
          refine wpAnyH_ready (rs := [3]) (by kernel_rfl) (by simp) ?_
          refine AllReadyH.cons (o := { dst := some 22, op := Op.convert 50 9 (Operand.tmp 21), type := _, pos := _, after := _, guard := _ }) rfl (fun KK hKK => ?_) AllReadyH.nil
          have hKS := Lib.hid hKK
          clear hKK
          have hcv := hCV W2 gz oz
          go_simp
          refine hKS.out.out _ _ ob.b (fun hHeld => ?_)
          clear hKS KK hcv oz
          try simp only [Act.put, List.setIfInBounds_toArray, List.set_cons_zero, List.set_cons_succ]
          refine wpAnyH_ready (rs := [4]) (by kernel_rfl) (by simp) ?_
          refine AllReadyH.cons (o := { dst := some 23, op := Op.buildSlice 22 1 #[(0, Operand.tmp 22)], type := _, pos := _, after := _, guard := _ }) rfl (fun KK hKK => ?_) AllReadyH.nil
          have hKS := Lib.hid hKK
          clear hKK
          have oy := (Nm.Own.new W2 9 #[.string ZB]).cell 0
          simp only [List.getElem?_toArray, List.getElem?_cons_zero] at oy
          have gb := grow W2 (Obj.cells #[.string ZB] 9)
          go_simp
          replace ob := ob.below gb
          replace hR := hR.below gb
          refine hKS.out.out _ _ ob.b (fun hHeld => ?_)
          clear hKS KK 
          clear gb
          generalize World.alloc W2 (Obj.cells #[.string ZB] 9) = W4 at *
          generalize W2.heap.size = gy at *
          try simp only [Act.put, List.setIfInBounds_toArray, List.set_cons_zero, List.set_cons_succ]
          refine wpAnyH_ready (rs := [5]) (by kernel_rfl) (by simp) ?_
          refine AllReadyH.cons (o := { dst := some 24, op := Op.call { callee := Callee.builtin Builtin.append, args := #[Operand.tmp 20, Operand.tmp 23], argTypes := #[22, 22] }, type := _, pos := _, after := _, guard := _ }) rfl (fun KK hKK => ?_) AllReadyH.nil
          have hKS := Lib.hid hKK
          clear hKK
          refine step_app_text rfl (.tmp 20) (.tmp 23) rfl (w.heap.size + 2) R k cap _ (by simp [Act.eval, Act.put]) hR gy 1 ZB (by simp [Act.eval, Act.put]) oy (by omega) ob.lt _ rfl ?_
          intro G cap' w5 hR2 hb5
          replace ob := ob.low hb5
          clear hR
          have hR := hR2
          refine hKS.out.out _ _ ob.b (fun hHeld => ?_)
          clear hKS KK oy hR2 hb5
          try simp only [Act.put, List.setIfInBounds_toArray, List.set_cons_zero, List.set_cons_succ]
          refine wpAnyH_take (i := 6) (oi := { dst := some 25, op := Op.fieldAddr 25 (Operand.tmp 4) 0, type := _, pos := _, after := _, guard := _ }) (v := ?_) rfl (by kernel_rfl) (by kernel_rfl) (by kernel_rfl) (fun _ _ _ h => h) (Or.inl ⟨by rfl, ?_⟩) hHeld ?_
          rotate_left
          · intro wq hSw
            go_simp
            rfl
          try simp only [Act.put, List.setIfInBounds_toArray, List.set_cons_zero, List.set_cons_succ]
          refine wpAnyH_ready (rs := [7]) (by kernel_rfl) (by simp) ?_
          refine AllReadyH.cons (o := { dst := none, op := Op.store 22 (Operand.tmp 25) (Operand.tmp 24), type := _, pos := _, after := _, guard := _ }) rfl (fun KK hKK => ?_) AllReadyH.nil
          have hKS := Lib.hid hKK
          clear hKK
          have d0 := ob.q.cell 0
          have f0 := ob.q.frozen 0
          simp only [List.getElem?_toArray, List.getElem?_cons_zero] at d0
          have s7 := St.cellOf w5 (w.heap.size + 1) 0 (.slice (some ⟨G, 0, none⟩) (k + 1) cap')
          have o7 : Nm.Own (World.setCell w5 ⟨w.heap.size + 1, 0, none⟩ (.slice (some ⟨G, 0, none⟩) (k + 1) cap')) (w.heap.size + 1) 25 (dv (some ⟨G, 0, none⟩) (k + 1) cap' none 0 0 (-1)) := ob.q.set 0 _
          have ob7 : B2 w (dv none 0 0 none 0 0 0) (dv (some ⟨G, 0, none⟩) (k + 1) cap' none 0 0 (-1)) (World.setCell w5 ⟨w.heap.size + 1, 0, none⟩ (.slice (some ⟨G, 0, none⟩) (k + 1) cap')) := ⟨s7.own ob.o (by omega), o7, s7.below ob.b (by omega)⟩
          have hR7 := s7.rs hR (by omega)
          go_simp
          refine hKS.out.out _ _ ob7.b (fun hHeld => ?_)
          clear hKS KK d0 f0 s7 o7 ob hR
          generalize World.setCell w5 ⟨w.heap.size + 1, 0, none⟩ (.slice (some ⟨G, 0, none⟩) (k + 1) cap') = W7 at *
          try simp only [Act.put, List.setIfInBounds_toArray, List.set_cons_zero, List.set_cons_succ]
          refine wpAnyH_done (by kernel_rfl) ?_ _
          go_wp2_with fail
          go_roundw
          case rel => exact ⟨k + 1, some ⟨G, 0, none⟩, cap', by omega, by go_num, ob7, by rw [HREP.out]; exact hR7⟩
          case measure => simp [intOf]; omega
        refine AllReadyH.cons (o := { dst := some 21, op := Op.makeSlice 50 (Operand.const (Value.int IntKind.i64 128)) (Operand.const (Value.int IntKind.i64 128)), type := _, pos := _, after := _, guard := _ }) rfl (fun KK hKK => ?_) AllReadyH.nil
        · have hKS := Lib.hid hKK
          clear hKK
          have hmk := hMK V0
          have oz := Nm.Own.new V0 5 Z
          have gb := grow V0 (Obj.cells Z 5)
          go_simp
          replace ob := ob.below gb
          replace hR := hR.below gb
          refine hKS.out.out _ _ ob.b (fun hHeld => ?_)
          clear hKS KK hmk
          clear gb
          generalize World.alloc V0 (Obj.cells Z 5) = W2 at *
          generalize V0.heap.size = gz at *
          try simp only [Act.put, List.setIfInBounds_toArray, List.set_cons_zero, List.set_cons_succ]
          refine wpAnyH_ready (rs := [1, 3]) (by kernel_rfl) (by simp) ?_
          refine AllReadyH.cons (o := { dst := some 20, op := Op.load 22 (Operand.tmp 19), type := _, pos := _, after := _, guard := _ }) rfl (fun KK hKK => ?_) ?_
          · have hKS := Lib.hid hKK
            clear hKK
            have d0 := ob.q.cell 0
            simp only [List.getElem?_toArray, List.getElem?_cons_zero] at d0
            go_simp
            refine hKS.out.out _ _ ob.b (fun hHeld => ?_)
            clear hKS KK d0
            try simp only [Act.put, List.setIfInBounds_toArray, List.set_cons_zero, List.set_cons_succ]
            refine wpAnyH_ready (rs := [3]) (by kernel_rfl) (by simp) ?_
            refine AllReadyH.cons (o := { dst := some 22, op := Op.convert 50 9 (Operand.tmp 21), type := _, pos := _, after := _, guard := _ }) rfl (fun KK hKK => ?_) AllReadyH.nil
            have hKS := Lib.hid hKK
            clear hKK
            have hcv := hCV W2 gz oz
            go_simp
            refine hKS.out.out _ _ ob.b (fun hHeld => ?_)
            clear hKS KK hcv oz
            try simp only [Act.put, List.setIfInBounds_toArray, List.set_cons_zero, List.set_cons_succ]
            refine wpAnyH_ready (rs := [4]) (by kernel_rfl) (by simp) ?_
            refine AllReadyH.cons (o := { dst := some 23, op := Op.buildSlice 22 1 #[(0, Operand.tmp 22)], type := _, pos := _, after := _, guard := _ }) rfl (fun KK hKK => ?_) AllReadyH.nil
            have hKS := Lib.hid hKK
            clear hKK
            have oy := (Nm.Own.new W2 9 #[.string ZB]).cell 0
            simp only [List.getElem?_toArray, List.getElem?_cons_zero] at oy
            have gb := grow W2 (Obj.cells #[.string ZB] 9)
            go_simp
            replace ob := ob.below gb
            replace hR := hR.below gb
            refine hKS.out.out _ _ ob.b (fun hHeld => ?_)
            clear hKS KK 
            clear gb
            generalize World.alloc W2 (Obj.cells #[.string ZB] 9) = W4 at *
            generalize W2.heap.size = gy at *
            try simp only [Act.put, List.setIfInBounds_toArray, List.set_cons_zero, List.set_cons_succ]
            refine wpAnyH_ready (rs := [5]) (by kernel_rfl) (by simp) ?_
            refine AllReadyH.cons (o := { dst := some 24, op := Op.call { callee := Callee.builtin Builtin.append, args := #[Operand.tmp 20, Operand.tmp 23], argTypes := #[22, 22] }, type := _, pos := _, after := _, guard := _ }) rfl (fun KK hKK => ?_) AllReadyH.nil
            have hKS := Lib.hid hKK
            clear hKK
            refine step_app_text rfl (.tmp 20) (.tmp 23) rfl (w.heap.size + 2) R k cap _ (by simp [Act.eval, Act.put]) hR gy 1 ZB (by simp [Act.eval, Act.put]) oy (by omega) ob.lt _ rfl ?_
            intro G cap' w5 hR2 hb5
            replace ob := ob.low hb5
            clear hR
            have hR := hR2
            refine hKS.out.out _ _ ob.b (fun hHeld => ?_)
            clear hKS KK oy hR2 hb5
            try simp only [Act.put, List.setIfInBounds_toArray, List.set_cons_zero, List.set_cons_succ]
            refine wpAnyH_take (i := 6) (oi := { dst := some 25, op := Op.fieldAddr 25 (Operand.tmp 4) 0, type := _, pos := _, after := _, guard := _ }) (v := ?_) rfl (by kernel_rfl) (by kernel_rfl) (by kernel_rfl) (fun _ _ _ h => h) (Or.inl ⟨by rfl, ?_⟩) hHeld ?_
            rotate_left
            · intro wq hSw
              go_simp
              rfl
            try simp only [Act.put, List.setIfInBounds_toArray, List.set_cons_zero, List.set_cons_succ]
            refine wpAnyH_ready (rs := [7]) (by kernel_rfl) (by simp) ?_
            refine AllReadyH.cons (o := { dst := none, op := Op.store 22 (Operand.tmp 25) (Operand.tmp 24), type := _, pos := _, after := _, guard := _ }) rfl (fun KK hKK => ?_) AllReadyH.nil
            have hKS := Lib.hid hKK
            clear hKK
            have d0 := ob.q.cell 0
            have f0 := ob.q.frozen 0
            simp only [List.getElem?_toArray, List.getElem?_cons_zero] at d0
            have s7 := St.cellOf w5 (w.heap.size + 1) 0 (.slice (some ⟨G, 0, none⟩) (k + 1) cap')
            have o7 : Nm.Own (World.setCell w5 ⟨w.heap.size + 1, 0, none⟩ (.slice (some ⟨G, 0, none⟩) (k + 1) cap')) (w.heap.size + 1) 25 (dv (some ⟨G, 0, none⟩) (k + 1) cap' none 0 0 (-1)) := ob.q.set 0 _
            have ob7 : B2 w (dv none 0 0 none 0 0 0) (dv (some ⟨G, 0, none⟩) (k + 1) cap' none 0 0 (-1)) (World.setCell w5 ⟨w.heap.size + 1, 0, none⟩ (.slice (some ⟨G, 0, none⟩) (k + 1) cap')) := ⟨s7.own ob.o (by omega), o7, s7.below ob.b (by omega)⟩
            have hR7 := s7.rs hR (by omega)
            go_simp
            refine hKS.out.out _ _ ob7.b (fun hHeld => ?_)
            clear hKS KK d0 f0 s7 o7 ob hR
            generalize World.setCell w5 ⟨w.heap.size + 1, 0, none⟩ (.slice (some ⟨G, 0, none⟩) (k + 1) cap') = W7 at *
            try simp only [Act.put, List.setIfInBounds_toArray, List.set_cons_zero, List.set_cons_succ]
            refine wpAnyH_done (by kernel_rfl) ?_ _
            go_wp2_with fail
            go_roundw
            case rel => exact ⟨k + 1, some ⟨G, 0, none⟩, cap', by omega, by go_num, ob7, by rw [HREP.out]; exact hR7⟩
            case measure => simp [intOf]; omega
          refine AllReadyH.cons (o := { dst := some 22, op := Op.convert 50 9 (Operand.tmp 21), type := _, pos := _, after := _, guard := _ }) rfl (fun KK hKK => ?_) AllReadyH.nil
          · have hKS := Lib.hid hKK
            clear hKK
            have hcv := hCV W2 gz oz
            go_simp
            refine hKS.out.out _ _ ob.b (fun hHeld => ?_)
            clear hKS KK hcv oz
            try simp only [Act.put, List.setIfInBounds_toArray, List.set_cons_zero, List.set_cons_succ]
            refine wpAnyH_ready (rs := [1, 4]) (by kernel_rfl) (by simp) ?_
            refine AllReadyH.cons (o := { dst := some 20, op := Op.load 22 (Operand.tmp 19), type := _, pos := _, after := _, guard := _ }) rfl (fun KK hKK => ?_) ?_
            · have hKS := Lib.hid hKK
              clear hKK
              have d0 := ob.q.cell 0
              simp only [List.getElem?_toArray, List.getElem?_cons_zero] at d0
              go_simp
              refine hKS.out.out _ _ ob.b (fun hHeld => ?_)
              clear hKS KK d0
              try simp only [Act.put, List.setIfInBounds_toArray, List.set_cons_zero, List.set_cons_succ]
              refine wpAnyH_ready (rs := [4]) (by kernel_rfl) (by simp) ?_
              refine AllReadyH.cons (o := { dst := some 23, op := Op.buildSlice 22 1 #[(0, Operand.tmp 22)], type := _, pos := _, after := _, guard := _ }) rfl (fun KK hKK => ?_) AllReadyH.nil
              have hKS := Lib.hid hKK
              clear hKK
              have oy := (Nm.Own.new W2 9 #[.string ZB]).cell 0
              simp only [List.getElem?_toArray, List.getElem?_cons_zero] at oy
              have gb := grow W2 (Obj.cells #[.string ZB] 9)
              go_simp
              replace ob := ob.below gb
              replace hR := hR.below gb
              refine hKS.out.out _ _ ob.b (fun hHeld => ?_)
              clear hKS KK 
              clear gb
              generalize World.alloc W2 (Obj.cells #[.string ZB] 9) = W4 at *
              generalize W2.heap.size = gy at *
              try simp only [Act.put, List.setIfInBounds_toArray, List.set_cons_zero, List.set_cons_succ]
              refine wpAnyH_ready (rs := [5]) (by kernel_rfl) (by simp) ?_
              refine AllReadyH.cons (o := { dst := some 24, op := Op.call { callee := Callee.builtin Builtin.append, args := #[Operand.tmp 20, Operand.tmp 23], argTypes := #[22, 22] }, type := _, pos := _, after := _, guard := _ }) rfl (fun KK hKK => ?_) AllReadyH.nil
              have hKS := Lib.hid hKK
              clear hKK
              refine step_app_text rfl (.tmp 20) (.tmp 23) rfl (w.heap.size + 2) R k cap _ (by simp [Act.eval, Act.put]) hR gy 1 ZB (by simp [Act.eval, Act.put]) oy (by omega) ob.lt _ rfl ?_
              intro G cap' w5 hR2 hb5
              replace ob := ob.low hb5
              clear hR
              have hR := hR2
              refine hKS.out.out _ _ ob.b (fun hHeld => ?_)
              clear hKS KK oy hR2 hb5
              try simp only [Act.put, List.setIfInBounds_toArray, List.set_cons_zero, List.set_cons_succ]
              refine wpAnyH_take (i := 6) (oi := { dst := some 25, op := Op.fieldAddr 25 (Operand.tmp 4) 0, type := _, pos := _, after := _, guard := _ }) (v := ?_) rfl (by kernel_rfl) (by kernel_rfl) (by kernel_rfl) (fun _ _ _ h => h) (Or.inl ⟨by rfl, ?_⟩) hHeld ?_
              rotate_left
              · intro wq hSw
                go_simp
                rfl
              try simp only [Act.put, List.setIfInBounds_toArray, List.set_cons_zero, List.set_cons_succ]
              refine wpAnyH_ready (rs := [7]) (by kernel_rfl) (by simp) ?_
              refine AllReadyH.cons (o := { dst := none, op := Op.store 22 (Operand.tmp 25) (Operand.tmp 24), type := _, pos := _, after := _, guard := _ }) rfl (fun KK hKK => ?_) AllReadyH.nil
              have hKS := Lib.hid hKK
              clear hKK
              have d0 := ob.q.cell 0
              have f0 := ob.q.frozen 0
              simp only [List.getElem?_toArray, List.getElem?_cons_zero] at d0
              have s7 := St.cellOf w5 (w.heap.size + 1) 0 (.slice (some ⟨G, 0, none⟩) (k + 1) cap')
              have o7 : Nm.Own (World.setCell w5 ⟨w.heap.size + 1, 0, none⟩ (.slice (some ⟨G, 0, none⟩) (k + 1) cap')) (w.heap.size + 1) 25 (dv (some ⟨G, 0, none⟩) (k + 1) cap' none 0 0 (-1)) := ob.q.set 0 _
              have ob7 : B2 w (dv none 0 0 none 0 0 0) (dv (some ⟨G, 0, none⟩) (k + 1) cap' none 0 0 (-1)) (World.setCell w5 ⟨w.heap.size + 1, 0, none⟩ (.slice (some ⟨G, 0, none⟩) (k + 1) cap')) := ⟨s7.own ob.o (by omega), o7, s7.below ob.b (by omega)⟩
              have hR7 := s7.rs hR (by omega)
              go_simp
              refine hKS.out.out _ _ ob7.b (fun hHeld => ?_)
              clear hKS KK d0 f0 s7 o7 ob hR
              generalize World.setCell w5 ⟨w.heap.size + 1, 0, none⟩ (.slice (some ⟨G, 0, none⟩) (k + 1) cap') = W7 at *
              try simp only [Act.put, List.setIfInBounds_toArray, List.set_cons_zero, List.set_cons_succ]
              refine wpAnyH_done (by kernel_rfl) ?_ _
              go_wp2_with fail
              go_roundw
              case rel => exact ⟨k + 1, some ⟨G, 0, none⟩, cap', by omega, by go_num, ob7, by rw [HREP.out]; exact hR7⟩
              case measure => simp [intOf]; omega
            refine AllReadyH.cons (o := { dst := some 23, op := Op.buildSlice 22 1 #[(0, Operand.tmp 22)], type := _, pos := _, after := _, guard := _ }) rfl (fun KK hKK => ?_) AllReadyH.nil
            · have hKS := Lib.hid hKK
              clear hKK
              have oy := (Nm.Own.new W2 9 #[.string ZB]).cell 0
              simp only [List.getElem?_toArray, List.getElem?_cons_zero] at oy
              have gb := grow W2 (Obj.cells #[.string ZB] 9)
              go_simp
              replace ob := ob.below gb
              replace hR := hR.below gb
              refine hKS.out.out _ _ ob.b (fun hHeld => ?_)
              clear hKS KK 
              clear gb
              generalize World.alloc W2 (Obj.cells #[.string ZB] 9) = W4 at *
              generalize W2.heap.size = gy at *
              try simp only [Act.put, List.setIfInBounds_toArray, List.set_cons_zero, List.set_cons_succ]
              refine wpAnyH_ready (rs := [1]) (by kernel_rfl) (by simp) ?_
              refine AllReadyH.cons (o := { dst := some 20, op := Op.load 22 (Operand.tmp 19), type := _, pos := _, after := _, guard := _ }) rfl (fun KK hKK => ?_) AllReadyH.nil
              have hKS := Lib.hid hKK
              clear hKK
              have d0 := ob.q.cell 0
              simp only [List.getElem?_toArray, List.getElem?_cons_zero] at d0
              go_simp
              refine hKS.out.out _ _ ob.b (fun hHeld => ?_)
              clear hKS KK d0
              try simp only [Act.put, List.setIfInBounds_toArray, List.set_cons_zero, List.set_cons_succ]
              refine wpAnyH_ready (rs := [5]) (by kernel_rfl) (by simp) ?_
              refine AllReadyH.cons (o := { dst := some 24, op := Op.call { callee := Callee.builtin Builtin.append, args := #[Operand.tmp 20, Operand.tmp 23], argTypes := #[22, 22] }, type := _, pos := _, after := _, guard := _ }) rfl (fun KK hKK => ?_) AllReadyH.nil
              have hKS := Lib.hid hKK
              clear hKK
              refine step_app_text rfl (.tmp 20) (.tmp 23) rfl (w.heap.size + 2) R k cap _ (by simp [Act.eval, Act.put]) hR gy 1 ZB (by simp [Act.eval, Act.put]) oy (by omega) ob.lt _ rfl ?_
              intro G cap' w5 hR2 hb5
              replace ob := ob.low hb5
              clear hR
              have hR := hR2
              refine hKS.out.out _ _ ob.b (fun hHeld => ?_)
              clear hKS KK oy hR2 hb5
              try simp only [Act.put, List.setIfInBounds_toArray, List.set_cons_zero, List.set_cons_succ]
              refine wpAnyH_take (i := 6) (oi := { dst := some 25, op := Op.fieldAddr 25 (Operand.tmp 4) 0, type := _, pos := _, after := _, guard := _ }) (v := ?_) rfl (by kernel_rfl) (by kernel_rfl) (by kernel_rfl) (fun _ _ _ h => h) (Or.inl ⟨by rfl, ?_⟩) hHeld ?_
              rotate_left
              · intro wq hSw
                go_simp
                rfl
              try simp only [Act.put, List.setIfInBounds_toArray, List.set_cons_zero, List.set_cons_succ]
              refine wpAnyH_ready (rs := [7]) (by kernel_rfl) (by simp) ?_
              refine AllReadyH.cons (o := { dst := none, op := Op.store 22 (Operand.tmp 25) (Operand.tmp 24), type := _, pos := _, after := _, guard := _ }) rfl (fun KK hKK => ?_) AllReadyH.nil
              have hKS := Lib.hid hKK
              clear hKK
              have d0 := ob.q.cell 0
              have f0 := ob.q.frozen 0
              simp only [List.getElem?_toArray, List.getElem?_cons_zero] at d0
              have s7 := St.cellOf w5 (w.heap.size + 1) 0 (.slice (some ⟨G, 0, none⟩) (k + 1) cap')
              have o7 : Nm.Own (World.setCell w5 ⟨w.heap.size + 1, 0, none⟩ (.slice (some ⟨G, 0, none⟩) (k + 1) cap')) (w.heap.size + 1) 25 (dv (some ⟨G, 0, none⟩) (k + 1) cap' none 0 0 (-1)) := ob.q.set 0 _
              have ob7 : B2 w (dv none 0 0 none 0 0 0) (dv (some ⟨G, 0, none⟩) (k + 1) cap' none 0 0 (-1)) (World.setCell w5 ⟨w.heap.size + 1, 0, none⟩ (.slice (some ⟨G, 0, none⟩) (k + 1) cap')) := ⟨s7.own ob.o (by omega), o7, s7.below ob.b (by omega)⟩
              have hR7 := s7.rs hR (by omega)
              go_simp
              refine hKS.out.out _ _ ob7.b (fun hHeld => ?_)
              clear hKS KK d0 f0 s7 o7 ob hR
              generalize World.setCell w5 ⟨w.heap.size + 1, 0, none⟩ (.slice (some ⟨G, 0, none⟩) (k + 1) cap') = W7 at *
              try simp only [Act.put, List.setIfInBounds_toArray, List.set_cons_zero, List.set_cons_succ]
              refine wpAnyH_done (by kernel_rfl) ?_ _
              go_wp2_with fail
              go_roundw
              case rel => exact ⟨k + 1, some ⟨G, 0, none⟩, cap', by omega, by go_num, ob7, by rw [HREP.out]; exact hR7⟩
              case measure => simp [intOf]; omega
      · obtain rfl : k = q := by omega
        clear hMK hCV
        go_wp2_with (first | (refine ld25 rfl rfl rfl ob.q ?_) | (refine sto25 rfl rfl rfl rfl ob.o rfl ?_))
        intro w4 o4 s4
        go_wp2_with fail
        refine res25e rfl rfl rfl o4 rfl ⟨?_, s4.below ob.b (Nat.le_refl _)⟩
        rw [HN.out]
        exact ⟨R, k, cap, none, 0, 0, rfl, ⟨Tz.of (s4.rs hR (by omega)) (by omega), Pz.nil _, by show (-9223372036854775808 : Int) ≤ -1; decide, by show (-1 : Int) ≤ 9223372036854775807; decide⟩⟩
  · have HN := Lib.hid (show Dm.newM n = (Dm.zero, 2) from if_neg hn)
    by_cases t1 : n < 0
    · go_enter Try.func12, Try.ntmps12
      go_wp2_with fail
      refine res25e rfl rfl rfl o rfl ⟨?_, hb⟩
      rw [HN.out]
      exact AnsIs.zero _ _
    · have t2 : (256 : Int) < n := by omega
      have t3 : 0 ≤ n := by omega
      clear hn
      go_enter Try.func12, Try.ntmps12
      go_wp2_with fail
      refine res25e rfl rfl rfl o rfl ⟨?_, hb⟩
      rw [HN.out]
      exact AnsIs.zero _ _
end Dw
end Go.Proofs.Ytmolbliooaofbaa
