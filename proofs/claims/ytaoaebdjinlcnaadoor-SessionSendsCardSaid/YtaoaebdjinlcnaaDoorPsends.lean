/-
  For every end of a channel and all data: SessionSends answers true (what is sent, what becomes of the end, the next key, and any answer's frame are the document's), and the arguments read behind the call as they read before; the package variables are laid by the program's own text.
-/
import Derived.Test.YtaoaebdjinlcnaaDoorRows
import Derived.Test.YtaoaebdjinlcnaaDoorCards
import Derived.Test.YtaoaebdjinlcnaaDoorTie
import Derived.Test.YtaoaebdjinlcnaaDoorVk
import Derived.Test.YtaoaebdjinlcnaaDoorLa
import Derived.WalkKit
import Derived.ProofKit
import Derived.LaidMore
import Derived.OpenShut
import Derived.ShutString
import Derived.Stop.Joined
namespace Go.Proofs.YtaoaebdjinlcnaaDoor.sessionSends
open Go.ChangeShapes Go.WideShapes Go.ChangeAt Go.RowKit
open Go.ChangeMaps (open_string shut_string)
set_option linter.unusedVariables false
set_option linter.unusedSimpArgs false

theorem own : ownKnob Tryd.prog.godebug = none := by kernel_rfl
theorem door_met (os : Os) (args : Array Value) : laidMetH Tryd.prog lay2 ((World.doorLaid Tryd.prog 400 os).forCall (fun _ _ => 0) ⟨#[], args, []⟩).memory :=
  laidMetH_of_parts3 (fuel := 8) (laidMet_of_run' 8 (by kernel_rfl) (by kernel_rfl)) (by kernel_rfl) (by kernel_rfl)
set_option maxRecDepth 100000 in
set_option maxHeartbeats 8000000 in
theorem walk (c : Ch) (d : ByteArray) (hc : c.Ok) (wf : d.size ≤ maxLen) (w : World) (hT : Tab w) :
    Calls Tryd.prog 3 #[.agg (chv c), .string d] w fun e w' => e = .returned (.bool true) ∧ Below w.heap.size w w' := by
  have hfx := fun wr (h : Below w.heap.size w wr) => fixed_any wr (hT.below h)
  have k0 := Cb.new w c hc.k
  have b0 := grow w (Obj.cells (chv c) 26)
  go_enter Tryd.func3, Tryd.ntmps3
  go_upto_region 1 with fail
  generalize w.alloc (Obj.cells (chv c) 26) = W0 at *
  have c0 := k0.c0
  by_cases hbig : 100 < c.m.size ∨ (600 < d.size ∧ d.size ≤ 65536)
  · have dd : 100 < (c.m.size : Int) ∨ (¬ 100 < (c.m.size : Int) ∧ 600 < (d.size : Int) ∧ (d.size : Int) ≤ 65536) := by omega
    rcases dd with d0 | ⟨d0, d1, d2⟩ <;>
    · go_wp2_with fail
      refine (hfx _ b0).mono ?_
      rintro e w1 ⟨rfl, hx⟩
      replace b0 := b0.trans (hx.mono b0.size)
      go_wp2_with fail
      go_ret
      exact ⟨rfl, b0⟩
  · have d0 : ¬ 100 < (c.m.size : Int) := by omega
    have dd : ¬ 600 < (d.size : Int) ∨ (600 < (d.size : Int) ∧ ¬ (d.size : Int) ≤ 65536) := by omega
    have hs := fun wr (h : Below w.heap.size w wr) => send_any c d wr hc (hT.below h) (by omega) (by omega)
    have hr := fun wr => rsend_any c d wr hc (by omega) (by omega)
    have hn := fun wr (h : Below w.heap.size w wr) => next_any c.K wr hc.b hc.k (hT.below h)
    have hm := fun wr => rnext_any c.K wr hc.b hc.k
    have hX : (sendR c d).1.K.length = 32 := sendR_len c d
    generalize sendR c d = X at *
    obtain ⟨X1, X2, X3⟩ := X
    dsimp only at hX
    rcases dd with d1 | ⟨d1, d2⟩ <;>
    · go_wp2_with (first | refine ld26 rfl rfl rfl k0 ?_ | refine ldk rfl rfl rfl k0 ?_)
      refine (hs _ b0).mono ?_
      rintro e V1 ⟨rfl, hx⟩
      replace k0 := k0.below hx
      replace c0 := cell_below c0 hx
      replace b0 := b0.trans (hx.mono b0.size)
      clear hx
      try dsimp only [rsv, bad]
      have hx := grow V1 (Obj.cells (chv X1) 26)
      have x1 := Cb.new V1 X1 hX
      replace k0 := k0.below hx
      replace c0 := cell_below c0 hx
      replace b0 := b0.trans (hx.mono b0.size)
      clear hx
      go_wp2_with (first | refine sto26n (d := X1) hX rfl rfl rfl rfl rfl ?_ | refine ld26 rfl rfl rfl k0 ?_ | refine ldk rfl rfl rfl k0 ?_ | refine ld26 rfl rfl rfl x1 ?_ | refine ldk rfl rfl rfl x1 ?_)
      generalize V1.alloc (Obj.cells (chv X1) 26) = V2 at *
      refine (hr _).mono ?_
      rintro e V3 ⟨rfl, hx⟩
      replace k0 := k0.below hx
      replace c0 := cell_below c0 hx
      replace x1 := x1.below hx
      replace b0 := b0.trans (hx.mono b0.size)
      clear hx
      try dsimp only [rsv, bad]
      have hx := grow V3 (Obj.cells (chv X1) 26)
      have y1 := Cb.new V3 X1 hX
      replace k0 := k0.below hx
      replace c0 := cell_below c0 hx
      replace x1 := x1.below hx
      replace b0 := b0.trans (hx.mono b0.size)
      clear hx
      go_upto_region 5 with (first | refine sto26n (d := X1) hX rfl rfl rfl rfl rfl ?_ | refine ld26 rfl rfl rfl k0 ?_ | refine ldk rfl rfl rfl k0 ?_ | refine ld26 rfl rfl rfl x1 ?_ | refine ldk rfl rfl rfl x1 ?_ | refine ld26 rfl rfl rfl y1 ?_ | refine ldk rfl rfl rfl y1 ?_)
      generalize V3.alloc (Obj.cells (chv X1) 26) = V4 at *
      refine wp_region_held_drew (S := fun V => Cb V w.heap.size c ∧ Cb V V1.heap.size X1 ∧ Cb V V3.heap.size X1 ∧ Below w.heap.size w V) (by kernel_rfl) ⟨k0.drew, x1.drew, y1.drew, b0.drew⟩ (fun hHeld => ?_)
      clear k0 x1 y1 b0 c0
      generalize V4.drew = Y0 at *
      refine wpAnyH_take (i := 0) (oi := { dst := some 40, op := Op.load 26 (Operand.tmp 5), type := _, pos := _, after := _, guard := _ }) rfl (by kernel_rfl) (by kernel_rfl) (by kernel_rfl) (fun _ _ _ h => h) (yl26 (by rfl) _ rfl _ rfl (fun w1 h => h.2.1) hX) hHeld ?_
      try simp only [Act.put, List.setIfInBounds_toArray, List.set_cons_zero, List.set_cons_succ]
      refine wpAnyH_take (i := 1) (oi := { dst := some 41, op := Op.load 26 (Operand.tmp 8), type := _, pos := _, after := _, guard := _ }) rfl (by kernel_rfl) (by kernel_rfl) (by kernel_rfl) (fun _ _ _ h => h) (yl26 (by rfl) _ rfl _ rfl (fun w1 h => h.2.2.1) hX) hHeld ?_
      try simp only [Act.put, List.setIfInBounds_toArray, List.set_cons_zero, List.set_cons_succ]
      refine wpAnyH_take (i := 2) (oi := { dst := some 42, op := Op.binOp BinOp.neq 26 (Operand.tmp 40) (Operand.tmp 41) 26, type := _, pos := _, after := _, guard := _ }) rfl (by kernel_rfl) (by kernel_rfl) (by kernel_rfl) (fun _ _ _ h => h) ((Or.inl ⟨by kernel_rfl, fun wq hSw => exec_ne26 X1 hX wq _ _ _ rfl rfl _ rfl⟩)) hHeld ?_
      try simp only [Act.put, List.setIfInBounds_toArray, List.set_cons_zero, List.set_cons_succ]
      refine wpAnyH_take (i := 3) (oi := { dst := some 43, op := Op.move (Operand.tmp 42), type := _, pos := _, after := _, guard := _ }) (v := ?_) rfl (by kernel_rfl) (by kernel_rfl) (by kernel_rfl) (fun _ _ _ h => h) (Or.inl ⟨by rfl, ?_⟩) hHeld ?_
      rotate_left
      · intro wq hSw
        go_simp
        rfl
      try simp only [Act.put, List.setIfInBounds_toArray, List.set_cons_zero, List.set_cons_succ]
      refine wpAnyH_take (i := 4) (oi := { dst := some 44, op := Op.move (Operand.tmp 6), type := _, pos := _, after := _, guard := _ }) (v := ?_) rfl (by kernel_rfl) (by kernel_rfl) (by kernel_rfl) (fun _ _ _ h => h) (Or.inl ⟨by rfl, ?_⟩) hHeld ?_
      rotate_left
      · intro wq hSw
        go_simp
        rfl
      try simp only [Act.put, List.setIfInBounds_toArray, List.set_cons_zero, List.set_cons_succ]
      refine wpAnyH_take (i := 5) (oi := { dst := some 45, op := Op.move (Operand.tmp 9), type := _, pos := _, after := _, guard := _ }) (v := ?_) rfl (by kernel_rfl) (by kernel_rfl) (by kernel_rfl) (fun _ _ _ h => h) (Or.inl ⟨by rfl, ?_⟩) hHeld ?_
      rotate_left
      · intro wq hSw
        go_simp
        rfl
      try simp only [Act.put, List.setIfInBounds_toArray, List.set_cons_zero, List.set_cons_succ]
      refine wpAnyH_take (i := 6) (oi := { dst := some 46, op := Op.binOp BinOp.neq 9 (Operand.tmp 44) (Operand.tmp 45) 9, type := _, pos := _, after := _, guard := _ }) (v := ?_) rfl (by kernel_rfl) (by kernel_rfl) (by kernel_rfl) (fun _ _ _ h => h) (Or.inl ⟨by rfl, ?_⟩) hHeld ?_
      rotate_left
      · intro wq hSw
        go_simp
        rfl
      try simp only [Act.put, List.setIfInBounds_toArray, List.set_cons_zero, List.set_cons_succ]
      refine wpAnyH_take (i := 7) (oi := { dst := some 47, op := Op.pick (Operand.tmp 43) (Operand.const (Value.bool true)) (Operand.tmp 46), type := _, pos := _, after := _, guard := _ }) (v := ?_) rfl (by kernel_rfl) (by kernel_rfl) (by kernel_rfl) (fun _ _ _ h => h) (Or.inl ⟨by rfl, ?_⟩) hHeld ?_
      rotate_left
      · intro wq hSw
        go_simp
        rfl
      try simp only [Act.put, List.setIfInBounds_toArray, List.set_cons_zero, List.set_cons_succ]
      refine wpAnyH_take (i := 8) (oi := { dst := some 48, op := Op.move (Operand.tmp 47), type := _, pos := _, after := _, guard := _ }) (v := ?_) rfl (by kernel_rfl) (by kernel_rfl) (by kernel_rfl) (fun _ _ _ h => h) (Or.inl ⟨by rfl, ?_⟩) hHeld ?_
      rotate_left
      · intro wq hSw
        go_simp
        rfl
      try simp only [Act.put, List.setIfInBounds_toArray, List.set_cons_zero, List.set_cons_succ]
      refine wpAnyH_take (i := 9) (oi := { dst := some 49, op := Op.move (Operand.tmp 7), type := _, pos := _, after := _, guard := _ }) (v := ?_) rfl (by kernel_rfl) (by kernel_rfl) (by kernel_rfl) (fun _ _ _ h => h) (Or.inl ⟨by rfl, ?_⟩) hHeld ?_
      rotate_left
      · intro wq hSw
        go_simp
        rfl
      try simp only [Act.put, List.setIfInBounds_toArray, List.set_cons_zero, List.set_cons_succ]
      refine wpAnyH_take (i := 10) (oi := { dst := some 50, op := Op.move (Operand.tmp 10), type := _, pos := _, after := _, guard := _ }) (v := ?_) rfl (by kernel_rfl) (by kernel_rfl) (by kernel_rfl) (fun _ _ _ h => h) (Or.inl ⟨by rfl, ?_⟩) hHeld ?_
      rotate_left
      · intro wq hSw
        go_simp
        rfl
      try simp only [Act.put, List.setIfInBounds_toArray, List.set_cons_zero, List.set_cons_succ]
      refine wpAnyH_take (i := 11) (oi := { dst := some 51, op := Op.binOp BinOp.neq 28 (Operand.tmp 49) (Operand.tmp 50) 28, type := _, pos := _, after := _, guard := _ }) (v := ?_) rfl (by kernel_rfl) (by kernel_rfl) (by kernel_rfl) (fun _ _ _ h => h) (Or.inl ⟨by rfl, ?_⟩) hHeld ?_
      rotate_left
      · intro wq hSw
        go_simp
        rfl
      try simp only [Act.put, List.setIfInBounds_toArray, List.set_cons_zero, List.set_cons_succ]
      refine wpAnyH_take (i := 12) (oi := { dst := some 52, op := Op.pick (Operand.tmp 48) (Operand.const (Value.bool true)) (Operand.tmp 51), type := _, pos := _, after := _, guard := _ }) (v := ?_) rfl (by kernel_rfl) (by kernel_rfl) (by kernel_rfl) (fun _ _ _ h => h) (Or.inl ⟨by rfl, ?_⟩) hHeld ?_
      rotate_left
      · intro wq hSw
        go_simp
        rfl
      try simp only [Act.put, List.setIfInBounds_toArray, List.set_cons_zero, List.set_cons_succ]
      refine wpAnyH_take (i := 13) (oi := { dst := some 53, op := Op.move (Operand.tmp 52), type := _, pos := _, after := _, guard := _ }) (v := ?_) rfl (by kernel_rfl) (by kernel_rfl) (by kernel_rfl) (fun _ _ _ h => h) (Or.inl ⟨by rfl, ?_⟩) hHeld ?_
      rotate_left
      · intro wq hSw
        go_simp
        rfl
      try simp only [Act.put, List.setIfInBounds_toArray, List.set_cons_zero, List.set_cons_succ]
      refine wpAnyH_take (i := 14) (oi := { dst := some 54, op := Op.fieldAddr 26 (Operand.tmp 2) 2, type := _, pos := _, after := _, guard := _ }) (v := ?_) rfl (by kernel_rfl) (by kernel_rfl) (by kernel_rfl) (fun _ _ _ h => h) (Or.inl ⟨by rfl, ?_⟩) hHeld ?_
      rotate_left
      · intro wq hSw
        go_simp
        rfl
      try simp only [Act.put, List.setIfInBounds_toArray, List.set_cons_zero, List.set_cons_succ]
      refine wpAnyH_take (i := 15) (oi := { dst := some 55, op := Op.load 24 (Operand.tmp 54), type := _, pos := _, after := _, guard := _ }) rfl (by kernel_rfl) (by kernel_rfl) (by kernel_rfl) (fun _ _ _ h => h) (ylk (by rfl) _ rfl _ rfl (fun w1 h => h.1) hc.k) hHeld ?_
      try simp only [Act.put, List.setIfInBounds_toArray, List.set_cons_zero, List.set_cons_succ]
      refine wpAnyH_take (i := 17) (oi := { dst := some 57, op := Op.fieldAddr 26 (Operand.tmp 2) 2, type := _, pos := _, after := _, guard := _ }) (v := ?_) rfl (by kernel_rfl) (by kernel_rfl) (by kernel_rfl) (fun _ _ _ h => h) (Or.inl ⟨by rfl, ?_⟩) hHeld ?_
      rotate_left
      · intro wq hSw
        go_simp
        rfl
      try simp only [Act.put, List.setIfInBounds_toArray, List.set_cons_zero, List.set_cons_succ]
      refine wpAnyH_take (i := 18) (oi := { dst := some 58, op := Op.load 24 (Operand.tmp 57), type := _, pos := _, after := _, guard := _ }) rfl (by kernel_rfl) (by kernel_rfl) (by kernel_rfl) (fun _ _ _ h => h) (ylk (by rfl) _ rfl _ rfl (fun w1 h => h.1) hc.k) hHeld ?_
      try simp only [Act.put, List.setIfInBounds_toArray, List.set_cons_zero, List.set_cons_succ]
      refine wpAnyH_ready (rs := [16]) (by kernel_rfl) (by simp) ?_
      refine AllReadyH.cons (o := { dst := some 56, op := Op.call { callee := Callee.value (Operand.func 14), args := #[Operand.tmp 55], argTypes := #[24] }, type := _, pos := _, after := _, guard := _ }) rfl (fun KK hKK => ?_) AllReadyH.nil
      have hKS := Lib.hid hKK
      clear hKK
      go_simp
      refine (hn _ hHeld.2.2.2).mono ?_
      rintro e w16 ⟨rfl, hx⟩
      go_wp2_with fail
      refine hKS.out.out _ _ (⟨hHeld.1.below hx, hHeld.2.1.below hx, hHeld.2.2.1.below hx, hHeld.2.2.2.trans (hx.mono hHeld.2.2.2.size)⟩) (fun hHeld => ?_)
      clear hKS KK hx
      try simp only [Act.put, List.setIfInBounds_toArray, List.set_cons_zero, List.set_cons_succ]
      refine wpAnyH_ready (rs := [19]) (by kernel_rfl) (by simp) ?_
      refine AllReadyH.cons (o := { dst := some 59, op := Op.call { callee := Callee.value (Operand.func 15), args := #[Operand.tmp 58], argTypes := #[24] }, type := _, pos := _, after := _, guard := _ }) rfl (fun KK hKK => ?_) AllReadyH.nil
      have hKS := Lib.hid hKK
      clear hKK
      go_simp
      refine (hm _).mono ?_
      rintro e w19 ⟨rfl, hx⟩
      go_wp2_with fail
      refine hKS.out.out _ _ (⟨hHeld.1.below hx, hHeld.2.1.below hx, hHeld.2.2.1.below hx, hHeld.2.2.2.trans (hx.mono hHeld.2.2.2.size)⟩) (fun hHeld => ?_)
      clear hKS KK hx
      try simp only [Act.put, List.setIfInBounds_toArray, List.set_cons_zero, List.set_cons_succ]
      refine wpAnyH_take (i := 20) (oi := { dst := some 60, op := Op.binOp BinOp.neq 24 (Operand.tmp 56) (Operand.tmp 59) 24, type := _, pos := _, after := _, guard := _ }) rfl (by kernel_rfl) (by kernel_rfl) (by kernel_rfl) (fun _ _ _ h => h) ((Or.inl ⟨by kernel_rfl, fun wq hSw => exec_ne24 (nxt c.K) (keyed_len _ _) wq _ _ _ rfl rfl _ rfl⟩)) hHeld ?_
      try simp only [Act.put, List.setIfInBounds_toArray, List.set_cons_zero, List.set_cons_succ]
      refine wpAnyH_take (i := 21) (oi := { dst := some 61, op := Op.pick (Operand.tmp 53) (Operand.const (Value.bool true)) (Operand.tmp 60), type := _, pos := _, after := _, guard := _ }) (v := ?_) rfl (by kernel_rfl) (by kernel_rfl) (by kernel_rfl) (fun _ _ _ h => h) (Or.inl ⟨by rfl, ?_⟩) hHeld ?_
      rotate_left
      · intro wq hSw
        go_simp
        rfl
      try simp only [Act.put, List.setIfInBounds_toArray, List.set_cons_zero, List.set_cons_succ]
      refine wpAnyH_done (by kernel_rfl) ?_ _
      obtain ⟨k0, x1, y1, b0⟩ := hHeld
      by_cases hbig2 : 600 < d.size
      · have d2 : 600 < (d.size : Int) := by omega
        go_wp2_with fail
        refine (hfx _ b0).mono ?_
        rintro e w1 ⟨rfl, hx⟩
        replace b0 := b0.trans (hx.mono b0.size)
        go_wp2_with fail
        go_ret
        exact ⟨rfl, b0⟩
      · have d2 : ¬ 600 < (d.size : Int) := by omega
        try (exfalso; omega)
        all_goals
          have hp := fun wr (h : Below w.heap.size w wr) => reply_any c.K c.n d wr hc.b hc.k hc.n (hT.below h) (by omega)
          have hq := fun wr => rreply_any c.K c.n d wr hc.b hc.k hc.n (by omega)
          generalize replyD c.K c.n d = R at *
          go_upto_region 9 with fail
          refine wp_region_held_drew (S := fun V => Cb V w.heap.size c ∧ Below w.heap.size w V) (by kernel_rfl) ⟨k0.drew, b0.drew⟩ (fun hHeld => ?_)
          clear k0 x1 y1 b0
          generalize w19.drew = Z0 at *
          refine wpAnyH_ready (rs := [0]) (by kernel_rfl) (by simp) ?_
          refine AllReadyH.cons (o := { dst := some 66, op := Op.call { callee := Callee.value (Operand.func 11), args := #[], argTypes := #[] }, type := _, pos := _, after := _, guard := _ }) rfl (fun KK hKK => ?_) AllReadyH.nil
          have hKS := Lib.hid hKK
          clear hKK
          go_simp
          refine (hfx _ hHeld.2).mono ?_
          rintro e w0 ⟨rfl, hx⟩
          go_wp2_with fail
          refine hKS.out.out _ _ (⟨hHeld.1.below hx, hHeld.2.trans (hx.mono hHeld.2.size)⟩) (fun hHeld => ?_)
          clear hKS KK hx
          try simp only [Act.put, List.setIfInBounds_toArray, List.set_cons_zero, List.set_cons_succ]
          refine wpAnyH_take (i := 1) (oi := { dst := some 67, op := Op.move (Operand.tmp 66), type := _, pos := _, after := _, guard := _ }) (v := ?_) rfl (by kernel_rfl) (by kernel_rfl) (by kernel_rfl) (fun _ _ _ h => h) (Or.inl ⟨by rfl, ?_⟩) hHeld ?_
          rotate_left
          · intro wq hSw
            go_simp
            rfl
          try simp only [Act.put, List.setIfInBounds_toArray, List.set_cons_zero, List.set_cons_succ]
          refine wpAnyH_take (i := 2) (oi := { dst := some 68, op := Op.fieldAddr 26 (Operand.tmp 2) 2, type := _, pos := _, after := _, guard := _ }) (v := ?_) rfl (by kernel_rfl) (by kernel_rfl) (by kernel_rfl) (fun _ _ _ h => h) (Or.inl ⟨by rfl, ?_⟩) hHeld ?_
          rotate_left
          · intro wq hSw
            go_simp
            rfl
          try simp only [Act.put, List.setIfInBounds_toArray, List.set_cons_zero, List.set_cons_succ]
          refine wpAnyH_take (i := 3) (oi := { dst := some 69, op := Op.load 24 (Operand.tmp 68), type := _, pos := _, after := _, guard := _ }) rfl (by kernel_rfl) (by kernel_rfl) (by kernel_rfl) (fun _ _ _ h => h) (ylk (by rfl) _ rfl _ rfl (fun w1 h => h.1) hc.k) hHeld ?_
          try simp only [Act.put, List.setIfInBounds_toArray, List.set_cons_zero, List.set_cons_succ]
          refine wpAnyH_take (i := 4) (oi := { dst := some 70, op := Op.fieldAddr 26 (Operand.tmp 2) 1, type := _, pos := _, after := _, guard := _ }) (v := ?_) rfl (by kernel_rfl) (by kernel_rfl) (by kernel_rfl) (fun _ _ _ h => h) (Or.inl ⟨by rfl, ?_⟩) hHeld ?_
          rotate_left
          · intro wq hSw
            go_simp
            rfl
          try simp only [Act.put, List.setIfInBounds_toArray, List.set_cons_zero, List.set_cons_succ]
          refine wpAnyH_take (i := 5) (oi := { dst := some 71, op := Op.load 22 (Operand.tmp 70), type := _, pos := _, after := _, guard := _ }) (v := ?_) rfl (by kernel_rfl) (by kernel_rfl) (by kernel_rfl) (fun _ _ _ h => h) (Or.inl ⟨by rfl, ?_⟩) hHeld ?_
          rotate_left
          · intro wq hSw
            have c1 := hSw.1.c1
            go_simp
            rfl
          try simp only [Act.put, List.setIfInBounds_toArray, List.set_cons_zero, List.set_cons_succ]
          refine wpAnyH_take (i := 6) (oi := { dst := some 72, op := Op.move (Operand.tmp 1), type := _, pos := _, after := _, guard := _ }) (v := ?_) rfl (by kernel_rfl) (by kernel_rfl) (by kernel_rfl) (fun _ _ _ h => h) (Or.inl ⟨by rfl, ?_⟩) hHeld ?_
          rotate_left
          · intro wq hSw
            go_simp
            rfl
          try simp only [Act.put, List.setIfInBounds_toArray, List.set_cons_zero, List.set_cons_succ]
          refine wpAnyH_take (i := 8) (oi := { dst := some 74, op := Op.fieldAddr 26 (Operand.tmp 2) 2, type := _, pos := _, after := _, guard := _ }) (v := ?_) rfl (by kernel_rfl) (by kernel_rfl) (by kernel_rfl) (fun _ _ _ h => h) (Or.inl ⟨by rfl, ?_⟩) hHeld ?_
          rotate_left
          · intro wq hSw
            go_simp
            rfl
          try simp only [Act.put, List.setIfInBounds_toArray, List.set_cons_zero, List.set_cons_succ]
          refine wpAnyH_take (i := 9) (oi := { dst := some 75, op := Op.load 24 (Operand.tmp 74), type := _, pos := _, after := _, guard := _ }) rfl (by kernel_rfl) (by kernel_rfl) (by kernel_rfl) (fun _ _ _ h => h) (ylk (by rfl) _ rfl _ rfl (fun w1 h => h.1) hc.k) hHeld ?_
          try simp only [Act.put, List.setIfInBounds_toArray, List.set_cons_zero, List.set_cons_succ]
          refine wpAnyH_take (i := 10) (oi := { dst := some 76, op := Op.fieldAddr 26 (Operand.tmp 2) 1, type := _, pos := _, after := _, guard := _ }) (v := ?_) rfl (by kernel_rfl) (by kernel_rfl) (by kernel_rfl) (fun _ _ _ h => h) (Or.inl ⟨by rfl, ?_⟩) hHeld ?_
          rotate_left
          · intro wq hSw
            go_simp
            rfl
          try simp only [Act.put, List.setIfInBounds_toArray, List.set_cons_zero, List.set_cons_succ]
          refine wpAnyH_take (i := 11) (oi := { dst := some 77, op := Op.load 22 (Operand.tmp 76), type := _, pos := _, after := _, guard := _ }) (v := ?_) rfl (by kernel_rfl) (by kernel_rfl) (by kernel_rfl) (fun _ _ _ h => h) (Or.inl ⟨by rfl, ?_⟩) hHeld ?_
          rotate_left
          · intro wq hSw
            have c1 := hSw.1.c1
            go_simp
            rfl
          try simp only [Act.put, List.setIfInBounds_toArray, List.set_cons_zero, List.set_cons_succ]
          refine wpAnyH_take (i := 12) (oi := { dst := some 78, op := Op.move (Operand.tmp 1), type := _, pos := _, after := _, guard := _ }) (v := ?_) rfl (by kernel_rfl) (by kernel_rfl) (by kernel_rfl) (fun _ _ _ h => h) (Or.inl ⟨by rfl, ?_⟩) hHeld ?_
          rotate_left
          · intro wq hSw
            go_simp
            rfl
          try simp only [Act.put, List.setIfInBounds_toArray, List.set_cons_zero, List.set_cons_succ]
          refine wpAnyH_ready (rs := [7]) (by kernel_rfl) (by simp) ?_
          refine AllReadyH.cons (o := { dst := some 73, op := Op.call { callee := Callee.value (Operand.func 16), args := #[Operand.tmp 69, Operand.tmp 71, Operand.tmp 72], argTypes := #[24, 22, 9] }, type := _, pos := _, after := _, guard := _ }) rfl (fun KK hKK => ?_) AllReadyH.nil
          have hKS := Lib.hid hKK
          clear hKK
          go_simp
          refine (hp _ hHeld.2).mono ?_
          rintro e w7 ⟨rfl, hx⟩
          go_wp2_with fail
          refine hKS.out.out _ _ (⟨hHeld.1.below hx, hHeld.2.trans (hx.mono hHeld.2.size)⟩) (fun hHeld => ?_)
          clear hKS KK hx
          try simp only [Act.put, List.setIfInBounds_toArray, List.set_cons_zero, List.set_cons_succ]
          refine wpAnyH_ready (rs := [13]) (by kernel_rfl) (by simp) ?_
          refine AllReadyH.cons (o := { dst := some 79, op := Op.call { callee := Callee.value (Operand.func 17), args := #[Operand.tmp 75, Operand.tmp 77, Operand.tmp 78], argTypes := #[24, 22, 9] }, type := _, pos := _, after := _, guard := _ }) rfl (fun KK hKK => ?_) AllReadyH.nil
          have hKS := Lib.hid hKK
          clear hKK
          go_simp
          refine (hq _).mono ?_
          rintro e w13 ⟨rfl, hx⟩
          go_wp2_with fail
          refine hKS.out.out _ _ (⟨hHeld.1.below hx, hHeld.2.trans (hx.mono hHeld.2.size)⟩) (fun hHeld => ?_)
          clear hKS KK hx
          try simp only [Act.put, List.setIfInBounds_toArray, List.set_cons_zero, List.set_cons_succ]
          refine wpAnyH_take (i := 14) (oi := { dst := some 80, op := Op.binOp BinOp.eql 9 (Operand.tmp 73) (Operand.tmp 79) 9, type := _, pos := _, after := _, guard := _ }) (v := ?_) rfl (by kernel_rfl) (by kernel_rfl) (by kernel_rfl) (fun _ _ _ h => h) (Or.inl ⟨by rfl, ?_⟩) hHeld ?_
          rotate_left
          · intro wq hSw
            go_simp
            rfl
          try simp only [Act.put, List.setIfInBounds_toArray, List.set_cons_zero, List.set_cons_succ]
          refine wpAnyH_take (i := 15) (oi := { dst := some 81, op := Op.pick (Operand.tmp 67) (Operand.tmp 80) (Operand.const (Value.bool false)), type := _, pos := _, after := _, guard := _ }) (v := ?_) rfl (by kernel_rfl) (by kernel_rfl) (by kernel_rfl) (fun _ _ _ h => h) (Or.inl ⟨by rfl, ?_⟩) hHeld ?_
          rotate_left
          · intro wq hSw
            go_simp
            rfl
          try simp only [Act.put, List.setIfInBounds_toArray, List.set_cons_zero, List.set_cons_succ]
          refine wpAnyH_take (i := 16) (oi := { dst := some 4, op := Op.assign (Operand.tmp 81), type := _, pos := _, after := _, guard := _ }) (v := ?_) rfl (by kernel_rfl) (by kernel_rfl) (by kernel_rfl) (fun _ _ _ h => h) (Or.inl ⟨by rfl, ?_⟩) hHeld ?_
          rotate_left
          · intro wq hSw
            go_simp
            rfl
          try simp only [Act.put, List.setIfInBounds_toArray, List.set_cons_zero, List.set_cons_succ]
          refine wpAnyH_done (by kernel_rfl) ?_ _
          go_wp2_with fail
          go_ret
          exact ⟨rfl, hHeld.2⟩

set_option maxRecDepth 100000 in
theorem lifted (os : Os) (started : os.Started) (H : Type) (enc : TypeId × Value → H) :
    ReturnsInHanded {} Tryd.checked os 3 .any (fun w args => (Rows.sessionSendsSpec.pre enc Tryd.prog Tryd.f3 [] false w args ∧ laidMetH Tryd.prog lay2 w) ∧ sizedMet enc Tryd.prog Tryd.f3 (OpenSpec.ofChange Rows.sessionSendsSpec) false w args)
      (Rows.sessionSendsSpec.post enc Tryd.prog Tryd.f3 false true false false) := by
  refine returnsInHanded_of_change_and (C := Tryd.checked) (X := fun w _ => laidMetH Tryd.prog lay2 w) (fun _ _ _ hh h => h.of_heap hh) own started (by kernel_rfl) Tryd.func3
    (ChangeSpec.witness_shaped (enc := enc) (C := Tryd.checked) (os := os) (X := fun w _ => laidMetH Tryd.prog lay2 w) false (World.doorLaid Tryd.prog 400 os) #[.agg (#[.string ByteArray.empty, .int .u64 0] ++ Array.replicate 32 (.int .u8 0)), .string ByteArray.empty] 8 rfl (World.shaped_of_RefB (by kernel_rfl) (by kernel_rfl)) (by kernel_rfl) (by kernel_rfl) (by kernel_rfl) (door_met os _)) ?_
  intro W base args ds gs before hval0 hW _ _ hL _
  have hval : ∀ (j : Nat) t v, Tryd.f3.params[j]? = some t → args[j]? = some v → Value.okWide Tryd.prog W .any base t v := hval0
  have hW' := hW
  obtain ⟨p, q, hA0, hV, rfl, hfz, hnd⟩ := hW
  have hA : DataW.TrodAll enc Tryd.prog W 0 (fun _ => true) true Tryd.f3.params.toList args.toList ds p := hA0
  rw [Tryd.params3] at hA hval
  obtain ⟨v0, vs0, d0, ds0, p0, q0, hargs, rfl, rfl, h0, r0⟩ := trodAll_cons hA
  obtain ⟨v1, vs1, d1, ds1, p1, q1, rfl, rfl, rfl, h1, r1⟩ := trodAll_cons r0
  obtain ⟨rfl, rfl, rfl⟩ := trodAll_nil r1
  obtain rfl : args = #[v0, v1] := by cases args; simp_all
  obtain ⟨rfl, rfl⟩ := trodVars_none hV
  obtain ⟨K0, rfl, b0⟩ := okChan (hval 0 26 v0 rfl rfl)
  have k0 := h0
  have lt0 : ∀ x ∈ p0, x.block < W.heap.size := by obtain ⟨m, hm⟩ := k0; exact DataW.trod_lt m _ _ _ hm
  obtain ⟨a1, rfl, rfl, rfl, w1⟩ := open_string Tryd.underlying9 (hval 1 9 v1 rfl rfl) h1
  have hT := of_laid hL
  clear hA0 hval0
  refine (walk K0 a1 b0 (by unfold maxLen at w1; exact w1) W hT).mono fun e W' ⟨he, bel⟩ => ?_
  subst he
  exact ⟨_, rfl, _, _, _, [], _, [], hW', trodAll_mk1 (shut_bool Tryd.underlying4 _), (trodAll_cons_mk (Below.trod laidOut (by kernel_rfl) (of_decide_eq_true (by kernel_rfl)) k0 bel lt0) (trodAll_cons_mk (shut_string Tryd.underlying9 w1) trodAll_mk0)), rfl, bel.frame _, fun h => by cases h⟩

theorem bare : Rows.SessionSendsSaid :=
  OpenClaim.holds_of_wide 3 Tryd.f3 rfl rfl rfl rfl rfl rfl rfl ⟨rfl, rfl, rfl, rfl, rfl⟩ rfl rfl rfl rfl rfl (by kernel_rfl) Tryd.func3 (by kernel_rfl)
    (of_decide_eq_true (by kernel_rfl)) (by unfold Func.isWrapper; first | (rw [if_pos (by decide +kernel)]; kernel_rfl) | (rw [if_neg (by decide +kernel)]; exact ⟨rfl, rfl⟩))
    (fun os started H enc _ => lifted os started H enc)

/-- the statement -/
theorem proved : Rows.SessionSendsCardSaid :=
  Claim7.holds_tied_plain_at .later [] [.data, .data] true Rows.sessionSendsCard.stood.harness false
    bare (fun _ h => by cases h) (by kernel_rfl) (fun _ h => by cases h) sessionSends_row_tie rfl ⟨rfl, rfl⟩ (by kernel_rfl) rfl
    (fun f fn hf hfn => by
      obtain rfl : f = 3 := Option.some.inj ((show Tryd.prog.funcNamed "hibernacle/hibernaclelaw43.SessionSends" = some 3 by kernel_rfl).symm.trans hf) |>.symm
      obtain rfl : fn = Tryd.f3 := (Option.some.inj (Tryd.func3.symm.trans hfn)).symm
      exact ⟨by kernel_rfl, fun j t ht => by
        rw [Tryd.params3] at ht
        have hm : t ∈ [26, 9] := by simpa using Array.mem_of_getElem? ht
        have hall : ([26, 9].all fun u => !Tryd.prog.wantsStandIn u) = true := by kernel_rfl
        exact (show Tryd.prog.wantsStandIn t = false by simpa using List.all_eq_true.1 hall t hm)⟩)
    (by kernel_rfl)
end Go.Proofs.YtaoaebdjinlcnaaDoor.sessionSends
