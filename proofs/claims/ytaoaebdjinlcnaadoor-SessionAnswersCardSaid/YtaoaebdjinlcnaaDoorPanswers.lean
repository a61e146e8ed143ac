/-
  For every two ends and all data: SessionAnswers answers true (an answer is read by its message's key and number, as it was, and by no other ones where the document doesn't read it), and the arguments read behind the call as they read before; the package variables are laid by the program's own text.
-/
import Derived.Test.YtaoaebdjinlcnaaDoorRows
import Derived.Test.YtaoaebdjinlcnaaDoorCards
import Derived.Test.YtaoaebdjinlcnaaDoorTie
import Derived.Test.YtaoaebdjinlcnaaDoorVk
import Derived.Test.YtaoaebdjinlcnaaDoorLa
import Derived.WalkKit
import Derived.ProofKit
import Derived.LaidMore
import Derived.OpenShut
import Derived.ShutString
import Derived.Stop.Joined
namespace Go.Proofs.YtaoaebdjinlcnaaDoor.sessionAnswers
open Go.ChangeShapes Go.WideShapes Go.ChangeAt Go.RowKit
open Go.ChangeMaps (open_string shut_string)
set_option linter.unusedVariables false
set_option linter.unusedSimpArgs false

theorem own : ownKnob Tryd.prog.godebug = none := by kernel_rfl
theorem door_met (os : Os) (args : Array Value) : laidMetH Tryd.prog lay2 ((World.doorLaid Tryd.prog 400 os).forCall (fun _ _ => 0) ⟨#[], args, []⟩).memory :=
  laidMetH_of_parts3 (fuel := 8) (laidMet_of_run' 8 (by kernel_rfl) (by kernel_rfl)) (by kernel_rfl) (by kernel_rfl)
set_option maxRecDepth 100000 in
set_option maxHeartbeats 8000000 in
theorem walk (c o : Ch) (d : ByteArray) (hc : c.Ok) (ho : o.Ok) (wf : d.size ≤ maxLen) (w : World) (hT : Tab w) :
    Calls Tryd.prog 10 #[.agg (chv c), .agg (chv o), .string d] w fun e w' => e = .returned (.bool true) ∧ Below w.heap.size w w' := by
  have hfx := fun wr (h : Below w.heap.size w wr) => fixed_any wr (hT.below h)
  have k0 := (Cb.new w c hc.k).alloc (Obj.cells (chv o) 26)
  have o0 : Cb ((w.alloc (Obj.cells (chv c) 26)).alloc (Obj.cells (chv o) 26)) (w.heap.size + 1) o := by
    have := Cb.new (w.alloc (Obj.cells (chv c) 26)) o ho.k
    rwa [World.size_alloc] at this
  have b0 : Below w.heap.size w ((w.alloc (Obj.cells (chv c) 26)).alloc (Obj.cells (chv o) 26)) := (grow w _).alloc (by simp) _
  go_enter Tryd.func10, Tryd.ntmps10
  go_upto_region 1 with fail
  generalize (w.alloc (Obj.cells (chv c) 26)).alloc (Obj.cells (chv o) 26) = W0 at *
  have c0 := k0.c0
  have c1 := k0.c1
  have p0 := o0.c0
  have p1 := o0.c1
  by_cases hbig : 200 < d.size
  · have d0 : 200 < (d.size : Int) := by omega
    · go_wp2_with fail
      refine (hfx _ b0).mono ?_
      rintro e w1 ⟨rfl, hx⟩
      replace b0 := b0.trans (hx.mono b0.size)
      go_wp2_with fail
      go_ret
      exact ⟨rfl, b0⟩
  · have d0 : ¬ 200 < (d.size : Int) := by omega
    have hzl : (List.replicate 32 0 : List Nat).length = 32 := by simp
    have hp := fun wr (h : Below w.heap.size w wr) => reply_any c.K c.n d wr hc.b hc.k hc.n (hT.below h) (by omega)
    have zR := reply_size c.K c.n d
    have ha := fun wr (h : Below w.heap.size w wr) => answer_any c.K c.n (replyD c.K c.n d) wr hc.b hc.k hc.n (hT.below h) (by omega)
    rw [ans_reply] at ha
    have hb := fun wr (h : Below w.heap.size w wr) => answer_any o.K o.n (replyD c.K c.n d) wr ho.b ho.k ho.n (hT.below h) (by omega)
    have hr := fun wr => ranswer_any o.K o.n (replyD c.K c.n d) wr ho.b ho.k ho.n (by omega)
    have hbig2 := openD_big (K := Bl.keyed o.K wR) (h := num8 o.n) (x := replyD c.K c.n d) (by omega)
    rw [show openD (Bl.keyed o.K wR) (num8 o.n) (replyD c.K c.n d) = ansD o.K o.n (replyD c.K c.n d) from rfl] at hbig2
    generalize replyD c.K c.n d = R at *
    generalize ansD o.K o.n R = Y at *
    obtain ⟨Y1, Y2⟩ := Y
    have hed := str_yes (rfl : d = d)
    clear zR hbig
    go_upto_region 3 with fail
    clear c0 c1 p0 p1
    go_cut [7, 8, 9, 10] from 22 to 29 (fun s7 s8 s9 s10 wc => ∃ g1 g2, s7 = .pointer (some ⟨g1, 0, none⟩) ∧ s8 = .pointer (some ⟨g2, 0, none⟩) ∧ s9 = .int .u64 (c.n : Int) ∧ s10 = .int .u64 (o.n : Int) ∧ Own wc g1 24 (vs .u8 c.K) ∧ Own wc g2 24 (vs .u8 o.K) ∧ Cb wc w.heap.size c ∧ Cb wc (w.heap.size + 1) o ∧ Below w.heap.size w wc)
    case first =>
      refine wp_region_held_drew (S := fun V => Cb V w.heap.size c ∧ Cb V (w.heap.size + 1) o ∧ Below w.heap.size w V) (by kernel_rfl) ⟨k0.drew, o0.drew, b0.drew⟩ (fun hHeld => ?_)
      clear k0 o0 b0
      generalize W0.drew = Y0 at *
      refine wpAnyH_take (i := 0) (oi := { dst := some 22, op := Op.fieldAddr 26 (Operand.tmp 3) 2, type := _, pos := _, after := _, guard := _ }) (v := ?_) rfl (by kernel_rfl) (by kernel_rfl) (by kernel_rfl) (fun _ _ _ h => h) (Or.inl ⟨by rfl, ?_⟩) hHeld ?_
      rotate_left
      · intro wq hSw
        go_simp
        rfl
      try simp only [Act.put, List.setIfInBounds_toArray, List.set_cons_zero, List.set_cons_succ]
      refine wpAnyH_take (i := 1) (oi := { dst := some 23, op := Op.load 24 (Operand.tmp 22), type := _, pos := _, after := _, guard := _ }) rfl (by kernel_rfl) (by kernel_rfl) (by kernel_rfl) (fun _ _ _ h => h) (ylk (by rfl) _ rfl _ rfl (fun w1 h => h.1) hc.k) hHeld ?_
      try simp only [Act.put, List.setIfInBounds_toArray, List.set_cons_zero, List.set_cons_succ]
      refine wpAnyH_take (i := 2) (oi := { dst := some 24, op := Op.fieldAddr 26 (Operand.tmp 4) 2, type := _, pos := _, after := _, guard := _ }) (v := ?_) rfl (by kernel_rfl) (by kernel_rfl) (by kernel_rfl) (fun _ _ _ h => h) (Or.inl ⟨by rfl, ?_⟩) hHeld ?_
      rotate_left
      · intro wq hSw
        go_simp
        rfl
      try simp only [Act.put, List.setIfInBounds_toArray, List.set_cons_zero, List.set_cons_succ]
      refine wpAnyH_take (i := 3) (oi := { dst := some 25, op := Op.load 24 (Operand.tmp 24), type := _, pos := _, after := _, guard := _ }) rfl (by kernel_rfl) (by kernel_rfl) (by kernel_rfl) (fun _ _ _ h => h) (ylk (by rfl) _ rfl _ rfl (fun w1 h => h.2.1) ho.k) hHeld ?_
      try simp only [Act.put, List.setIfInBounds_toArray, List.set_cons_zero, List.set_cons_succ]
      refine wpAnyH_take (i := 4) (oi := { dst := some 26, op := Op.fieldAddr 26 (Operand.tmp 3) 1, type := _, pos := _, after := _, guard := _ }) (v := ?_) rfl (by kernel_rfl) (by kernel_rfl) (by kernel_rfl) (fun _ _ _ h => h) (Or.inl ⟨by rfl, ?_⟩) hHeld ?_
      rotate_left
      · intro wq hSw
        go_simp
        rfl
      try simp only [Act.put, List.setIfInBounds_toArray, List.set_cons_zero, List.set_cons_succ]
      refine wpAnyH_take (i := 5) (oi := { dst := some 27, op := Op.load 22 (Operand.tmp 26), type := _, pos := _, after := _, guard := _ }) (v := ?_) rfl (by kernel_rfl) (by kernel_rfl) (by kernel_rfl) (fun _ _ _ h => h) (Or.inl ⟨by rfl, ?_⟩) hHeld ?_
      rotate_left
      · intro wq hSw
        have c1 := hSw.1.c1
        go_simp
        rfl
      try simp only [Act.put, List.setIfInBounds_toArray, List.set_cons_zero, List.set_cons_succ]
      refine wpAnyH_take (i := 6) (oi := { dst := some 28, op := Op.fieldAddr 26 (Operand.tmp 4) 1, type := _, pos := _, after := _, guard := _ }) (v := ?_) rfl (by kernel_rfl) (by kernel_rfl) (by kernel_rfl) (fun _ _ _ h => h) (Or.inl ⟨by rfl, ?_⟩) hHeld ?_
      rotate_left
      · intro wq hSw
        go_simp
        rfl
      try simp only [Act.put, List.setIfInBounds_toArray, List.set_cons_zero, List.set_cons_succ]
      refine wpAnyH_take (i := 7) (oi := { dst := some 29, op := Op.load 22 (Operand.tmp 28), type := _, pos := _, after := _, guard := _ }) (v := ?_) rfl (by kernel_rfl) (by kernel_rfl) (by kernel_rfl) (fun _ _ _ h => h) (Or.inl ⟨by rfl, ?_⟩) hHeld ?_
      rotate_left
      · intro wq hSw
        have c1 := hSw.2.1.c1
        go_simp
        rfl
      try simp only [Act.put, List.setIfInBounds_toArray, List.set_cons_zero, List.set_cons_succ]
      refine wpAnyH_ready (rs := [8, 9]) (by kernel_rfl) (by simp) ?_
      refine AllReadyH.cons (o := { dst := some 7, op := Op.alloc 24, type := _, pos := _, after := _, guard := _ }) rfl (fun KK hKK => ?_) ?_
      · have hKS := Lib.hid hKK
        clear hKK
        go_simp
        have gx := grow Y0 (Obj.cells (vs .u8 (List.replicate 32 0)) 24)
        have ge_p : w.heap.size + 2 ≤ Y0.heap.size := hHeld.2.1.lt
        refine hKS.out.out _ (Y0.alloc (Obj.cells (vs .u8 (List.replicate 32 0)) 24)) ⟨hHeld.1.below gx, hHeld.2.1.below gx, hHeld.2.2.trans (gx.mono hHeld.2.2.size)⟩ (fun hHeld => ?_)
        have p : Own (Y0.alloc (Obj.cells (vs .u8 (List.replicate 32 0)) 24)) Y0.heap.size 24 (vs .u8 (List.replicate 32 0)) := Own.new _ _ _
        clear hKS KK gx
        generalize Y0.alloc (Obj.cells (vs .u8 (List.replicate 32 0)) 24) = a8 at *
        try simp only [Act.put, List.setIfInBounds_toArray, List.set_cons_zero, List.set_cons_succ]
        refine wpAnyH_ready (rs := [9]) (by kernel_rfl) (by simp) ?_
        refine AllReadyH.cons (o := { dst := some 8, op := Op.alloc 24, type := _, pos := _, after := _, guard := _ }) rfl (fun KK hKK => ?_) AllReadyH.nil
        have hKS := Lib.hid hKK
        clear hKK
        go_simp
        have lt_p := p.lt
        have gx := grow a8 (Obj.cells (vs .u8 (List.replicate 32 0)) 24)
        have ge_q : w.heap.size + 2 ≤ a8.heap.size := hHeld.2.1.lt
        refine hKS.out.out _ (a8.alloc (Obj.cells (vs .u8 (List.replicate 32 0)) 24)) ⟨hHeld.1.below gx, hHeld.2.1.below gx, hHeld.2.2.trans (gx.mono hHeld.2.2.size)⟩ (fun hHeld => ?_)
        have q : Own (a8.alloc (Obj.cells (vs .u8 (List.replicate 32 0)) 24)) a8.heap.size 24 (vs .u8 (List.replicate 32 0)) := Own.new _ _ _
        replace p := Below.own gx p p.lt
        clear hKS KK gx
        generalize a8.alloc (Obj.cells (vs .u8 (List.replicate 32 0)) 24) = a9 at *
        try simp only [Act.put, List.setIfInBounds_toArray, List.set_cons_zero, List.set_cons_succ]
        refine wpAnyH_ready (rs := [10]) (by kernel_rfl) (by simp) ?_
        refine AllReadyH.cons (o := { dst := none, op := Op.store 24 (Operand.tmp 7) (Operand.tmp 23), type := _, pos := _, after := _, guard := _ }) rfl (fun KK hKK => ?_) AllReadyH.nil
        have hKS := Lib.hid hKK
        clear hKK
        refine wst24 hc.k (by first | exact hzl | exact hc.k) rfl rfl rfl p ?_
        refine hKS.out.out _ (a9.setRow Y0.heap.size (vs .u8 c.K)) ⟨hHeld.1.rowOther _ (by omega), hHeld.2.1.rowOther _ (by omega), below_row hHeld.2.2 (show w.heap.size ≤ Y0.heap.size by omega) _⟩ (fun hHeld => ?_)
        replace p := p.row (vs .u8 c.K)
        replace q := q.rowOther (Y0.heap.size) (vs .u8 c.K) (by omega)
        clear hKS KK
        generalize a9.setRow Y0.heap.size (vs .u8 c.K) = s10 at *
        try simp only [Act.put, List.setIfInBounds_toArray, List.set_cons_zero, List.set_cons_succ]
        refine wpAnyH_ready (rs := [11]) (by kernel_rfl) (by simp) ?_
        refine AllReadyH.cons (o := { dst := none, op := Op.store 24 (Operand.tmp 8) (Operand.tmp 25), type := _, pos := _, after := _, guard := _ }) rfl (fun KK hKK => ?_) AllReadyH.nil
        have hKS := Lib.hid hKK
        clear hKK
        refine wst24 ho.k (by first | exact hzl | exact ho.k) rfl rfl rfl q ?_
        refine hKS.out.out _ (s10.setRow a8.heap.size (vs .u8 o.K)) ⟨hHeld.1.rowOther _ (by omega), hHeld.2.1.rowOther _ (by omega), below_row hHeld.2.2 (show w.heap.size ≤ a8.heap.size by omega) _⟩ (fun hHeld => ?_)
        replace q := q.row (vs .u8 o.K)
        replace p := p.rowOther (a8.heap.size) (vs .u8 o.K) (by omega)
        clear hKS KK
        generalize s10.setRow a8.heap.size (vs .u8 o.K) = s11 at *
        try simp only [Act.put, List.setIfInBounds_toArray, List.set_cons_zero, List.set_cons_succ]
        refine wpAnyH_take (i := 12) (oi := { dst := some 9, op := Op.assign (Operand.tmp 27), type := _, pos := _, after := _, guard := _ }) (v := ?_) rfl (by kernel_rfl) (by kernel_rfl) (by kernel_rfl) (fun _ _ _ h => h) (Or.inl ⟨by rfl, ?_⟩) hHeld ?_
        rotate_left
        · intro wq hSw
          go_simp
          rfl
        try simp only [Act.put, List.setIfInBounds_toArray, List.set_cons_zero, List.set_cons_succ]
        refine wpAnyH_take (i := 13) (oi := { dst := some 10, op := Op.assign (Operand.tmp 29), type := _, pos := _, after := _, guard := _ }) (v := ?_) rfl (by kernel_rfl) (by kernel_rfl) (by kernel_rfl) (fun _ _ _ h => h) (Or.inl ⟨by rfl, ?_⟩) hHeld ?_
        rotate_left
        · intro wq hSw
          go_simp
          rfl
        try simp only [Act.put, List.setIfInBounds_toArray, List.set_cons_zero, List.set_cons_succ]
        refine wpAnyH_done (by kernel_rfl) ?_ _
        go_wp2_with fail
        go_meet
        case rel => exact ⟨_, _, rfl, rfl, rfl, rfl, p, q, hHeld.1, hHeld.2.1, hHeld.2.2⟩
      refine AllReadyH.cons (o := { dst := some 8, op := Op.alloc 24, type := _, pos := _, after := _, guard := _ }) rfl (fun KK hKK => ?_) AllReadyH.nil
      · have hKS := Lib.hid hKK
        clear hKK
        go_simp
        have gx := grow Y0 (Obj.cells (vs .u8 (List.replicate 32 0)) 24)
        have ge_q : w.heap.size + 2 ≤ Y0.heap.size := hHeld.2.1.lt
        refine hKS.out.out _ (Y0.alloc (Obj.cells (vs .u8 (List.replicate 32 0)) 24)) ⟨hHeld.1.below gx, hHeld.2.1.below gx, hHeld.2.2.trans (gx.mono hHeld.2.2.size)⟩ (fun hHeld => ?_)
        have q : Own (Y0.alloc (Obj.cells (vs .u8 (List.replicate 32 0)) 24)) Y0.heap.size 24 (vs .u8 (List.replicate 32 0)) := Own.new _ _ _
        clear hKS KK gx
        generalize Y0.alloc (Obj.cells (vs .u8 (List.replicate 32 0)) 24) = a9 at *
        try simp only [Act.put, List.setIfInBounds_toArray, List.set_cons_zero, List.set_cons_succ]
        refine wpAnyH_ready (rs := [8]) (by kernel_rfl) (by simp) ?_
        refine AllReadyH.cons (o := { dst := some 7, op := Op.alloc 24, type := _, pos := _, after := _, guard := _ }) rfl (fun KK hKK => ?_) AllReadyH.nil
        have hKS := Lib.hid hKK
        clear hKK
        go_simp
        have lt_q := q.lt
        have gx := grow a9 (Obj.cells (vs .u8 (List.replicate 32 0)) 24)
        have ge_p : w.heap.size + 2 ≤ a9.heap.size := hHeld.2.1.lt
        refine hKS.out.out _ (a9.alloc (Obj.cells (vs .u8 (List.replicate 32 0)) 24)) ⟨hHeld.1.below gx, hHeld.2.1.below gx, hHeld.2.2.trans (gx.mono hHeld.2.2.size)⟩ (fun hHeld => ?_)
        have p : Own (a9.alloc (Obj.cells (vs .u8 (List.replicate 32 0)) 24)) a9.heap.size 24 (vs .u8 (List.replicate 32 0)) := Own.new _ _ _
        replace q := Below.own gx q q.lt
        clear hKS KK gx
        generalize a9.alloc (Obj.cells (vs .u8 (List.replicate 32 0)) 24) = a8 at *
        try simp only [Act.put, List.setIfInBounds_toArray, List.set_cons_zero, List.set_cons_succ]
        refine wpAnyH_ready (rs := [10]) (by kernel_rfl) (by simp) ?_
        refine AllReadyH.cons (o := { dst := none, op := Op.store 24 (Operand.tmp 7) (Operand.tmp 23), type := _, pos := _, after := _, guard := _ }) rfl (fun KK hKK => ?_) AllReadyH.nil
        have hKS := Lib.hid hKK
        clear hKK
        refine wst24 hc.k (by first | exact hzl | exact hc.k) rfl rfl rfl p ?_
        refine hKS.out.out _ (a8.setRow a9.heap.size (vs .u8 c.K)) ⟨hHeld.1.rowOther _ (by omega), hHeld.2.1.rowOther _ (by omega), below_row hHeld.2.2 (show w.heap.size ≤ a9.heap.size by omega) _⟩ (fun hHeld => ?_)
        replace p := p.row (vs .u8 c.K)
        replace q := q.rowOther (a9.heap.size) (vs .u8 c.K) (by omega)
        clear hKS KK
        generalize a8.setRow a9.heap.size (vs .u8 c.K) = s10 at *
        try simp only [Act.put, List.setIfInBounds_toArray, List.set_cons_zero, List.set_cons_succ]
        refine wpAnyH_ready (rs := [11]) (by kernel_rfl) (by simp) ?_
        refine AllReadyH.cons (o := { dst := none, op := Op.store 24 (Operand.tmp 8) (Operand.tmp 25), type := _, pos := _, after := _, guard := _ }) rfl (fun KK hKK => ?_) AllReadyH.nil
        have hKS := Lib.hid hKK
        clear hKK
        refine wst24 ho.k (by first | exact hzl | exact ho.k) rfl rfl rfl q ?_
        refine hKS.out.out _ (s10.setRow Y0.heap.size (vs .u8 o.K)) ⟨hHeld.1.rowOther _ (by omega), hHeld.2.1.rowOther _ (by omega), below_row hHeld.2.2 (show w.heap.size ≤ Y0.heap.size by omega) _⟩ (fun hHeld => ?_)
        replace q := q.row (vs .u8 o.K)
        replace p := p.rowOther (Y0.heap.size) (vs .u8 o.K) (by omega)
        clear hKS KK
        generalize s10.setRow Y0.heap.size (vs .u8 o.K) = s11 at *
        try simp only [Act.put, List.setIfInBounds_toArray, List.set_cons_zero, List.set_cons_succ]
        refine wpAnyH_take (i := 12) (oi := { dst := some 9, op := Op.assign (Operand.tmp 27), type := _, pos := _, after := _, guard := _ }) (v := ?_) rfl (by kernel_rfl) (by kernel_rfl) (by kernel_rfl) (fun _ _ _ h => h) (Or.inl ⟨by rfl, ?_⟩) hHeld ?_
        rotate_left
        · intro wq hSw
          go_simp
          rfl
        try simp only [Act.put, List.setIfInBounds_toArray, List.set_cons_zero, List.set_cons_succ]
        refine wpAnyH_take (i := 13) (oi := { dst := some 10, op := Op.assign (Operand.tmp 29), type := _, pos := _, after := _, guard := _ }) (v := ?_) rfl (by kernel_rfl) (by kernel_rfl) (by kernel_rfl) (fun _ _ _ h => h) (Or.inl ⟨by rfl, ?_⟩) hHeld ?_
        rotate_left
        · intro wq hSw
          go_simp
          rfl
        try simp only [Act.put, List.setIfInBounds_toArray, List.set_cons_zero, List.set_cons_succ]
        refine wpAnyH_done (by kernel_rfl) ?_ _
        go_wp2_with fail
        go_meet
        case rel => exact ⟨_, _, rfl, rfl, rfl, rfl, p, q, hHeld.1, hHeld.2.1, hHeld.2.2⟩
    case rest =>
      obtain ⟨g1, g2, rfl, rfl, rfl, rfl, p, q, _, _, b0⟩ := hcut
      clear k0 o0
      go_wp2_with (first | refine ld t28 rfl rfl rfl p hc.k ?_ | refine ld t28 rfl rfl rfl q ho.k ?_)
      refine (hp _ b0).mono ?_
      rintro e V1 ⟨rfl, hx⟩
      replace p := Below.own hx p p.lt
      replace q := Below.own hx q q.lt
      replace b0 := b0.trans (hx.mono b0.size)
      clear hx
      try dsimp only [rsv, bad]
      go_wp2_with (first | refine ld t28 rfl rfl rfl p hc.k ?_ | refine ld t28 rfl rfl rfl q ho.k ?_)
      refine (ha _ b0).mono ?_
      rintro e V2 ⟨rfl, hx⟩
      replace p := Below.own hx p p.lt
      replace q := Below.own hx q q.lt
      replace b0 := b0.trans (hx.mono b0.size)
      clear hx
      try dsimp only [rsv, bad]
      go_wp2_with (first | refine ld t28 rfl rfl rfl p hc.k ?_ | refine ld t28 rfl rfl rfl q ho.k ?_)
      refine (hb _ b0).mono ?_
      rintro e V3 ⟨rfl, hx⟩
      replace p := Below.own hx p p.lt
      replace q := Below.own hx q q.lt
      replace b0 := b0.trans (hx.mono b0.size)
      clear hx
      try dsimp only [rsv, bad]
      go_wp2_with (first | refine ld t28 rfl rfl rfl p hc.k ?_ | refine ld t28 rfl rfl rfl q ho.k ?_)
      refine (hr _).mono ?_
      rintro e V4 ⟨rfl, hx⟩
      replace p := Below.own hx p p.lt
      replace q := Below.own hx q q.lt
      replace b0 := b0.trans (hx.mono b0.size)
      clear hx
      try dsimp only [rsv, bad]
      have hY : ((Y2 : Int) == 0) = true ∨ (((Y2 : Int) == 0) = false ∧ Y1 = ⟨#[]⟩ ∧ Y2 = 5) := by
        rcases hbig2 with h | h
        · left; have h : Y2 = 0 := h; rw [beq_iff_eq]; omega
        · right; cases h; exact ⟨by decide, rfl, rfl⟩
      clear hbig2
      go_wp2_with fail
      refine (hfx _ b0).mono ?_
      rintro e V5 ⟨rfl, hx⟩
      replace p := Below.own hx p p.lt
      replace q := Below.own hx q q.lt
      replace b0 := b0.trans (hx.mono b0.size)
      clear hx
      try dsimp only [rsv, bad]
      rcases hY with hY | ⟨hY, rfl, rfl⟩
      · go_wp2_with fail
        go_ret
        exact ⟨rfl, b0⟩
      · go_wp2_with fail
        go_ret
        exact ⟨rfl, b0⟩

set_option maxRecDepth 100000 in
theorem lifted (os : Os) (started : os.Started) (H : Type) (enc : TypeId × Value → H) :
    ReturnsInHanded {} Tryd.checked os 10 .any (fun w args => (Rows.sessionAnswersSpec.pre enc Tryd.prog Tryd.f10 [] false w args ∧ laidMetH Tryd.prog lay2 w) ∧ sizedMet enc Tryd.prog Tryd.f10 (OpenSpec.ofChange Rows.sessionAnswersSpec) false w args)
      (Rows.sessionAnswersSpec.post enc Tryd.prog Tryd.f10 false true false false) := by
  refine returnsInHanded_of_change_and (C := Tryd.checked) (X := fun w _ => laidMetH Tryd.prog lay2 w) (fun _ _ _ hh h => h.of_heap hh) own started (by kernel_rfl) Tryd.func10
    (ChangeSpec.witness_shaped (enc := enc) (C := Tryd.checked) (os := os) (X := fun w _ => laidMetH Tryd.prog lay2 w) false (World.doorLaid Tryd.prog 400 os) #[.agg (#[.string ByteArray.empty, .int .u64 0] ++ Array.replicate 32 (.int .u8 0)), .agg (#[.string ByteArray.empty, .int .u64 0] ++ Array.replicate 32 (.int .u8 0)), .string ByteArray.empty] 8 rfl (World.shaped_of_RefB (by kernel_rfl) (by kernel_rfl)) (by kernel_rfl) (by kernel_rfl) (by kernel_rfl) (door_met os _)) ?_
  intro W base args ds gs before hval0 hW _ _ hL _
  have hval : ∀ (j : Nat) t v, Tryd.f10.params[j]? = some t → args[j]? = some v → Value.okWide Tryd.prog W .any base t v := hval0
  have hW' := hW
  obtain ⟨p, q, hA0, hV, rfl, hfz, hnd⟩ := hW
  have hA : DataW.TrodAll enc Tryd.prog W 0 (fun _ => true) true Tryd.f10.params.toList args.toList ds p := hA0
  rw [Tryd.params10] at hA hval
  obtain ⟨v0, vs0, d0, ds0, p0, q0, hargs, rfl, rfl, h0, r0⟩ := trodAll_cons hA
  obtain ⟨v1, vs1, d1, ds1, p1, q1, rfl, rfl, rfl, h1, r1⟩ := trodAll_cons r0
  obtain ⟨v2, vs2, d2, ds2, p2, q2, rfl, rfl, rfl, h2, r2⟩ := trodAll_cons r1
  obtain ⟨rfl, rfl, rfl⟩ := trodAll_nil r2
  obtain rfl : args = #[v0, v1, v2] := by cases args; simp_all
  obtain ⟨rfl, rfl⟩ := trodVars_none hV
  obtain ⟨K0, rfl, b0⟩ := okChan (hval 0 26 v0 rfl rfl)
  have k0 := h0
  have lt0 : ∀ x ∈ p0, x.block < W.heap.size := by obtain ⟨m, hm⟩ := k0; exact DataW.trod_lt m _ _ _ hm
  obtain ⟨K1, rfl, b1⟩ := okChan (hval 1 26 v1 rfl rfl)
  have k1 := h1
  have lt1 : ∀ x ∈ p1, x.block < W.heap.size := by obtain ⟨m, hm⟩ := k1; exact DataW.trod_lt m _ _ _ hm
  obtain ⟨a2, rfl, rfl, rfl, w2⟩ := open_string Tryd.underlying9 (hval 2 9 v2 rfl rfl) h2
  have hT := of_laid hL
  clear hA0 hval0
  refine (walk K0 K1 a2 b0 b1 (by unfold maxLen at w2; exact w2) W hT).mono fun e W' ⟨he, bel⟩ => ?_
  subst he
  exact ⟨_, rfl, _, _, _, [], _, [], hW', trodAll_mk1 (shut_bool Tryd.underlying4 _), (trodAll_cons_mk (Below.trod laidOut (by kernel_rfl) (of_decide_eq_true (by kernel_rfl)) k0 bel lt0) (trodAll_cons_mk (Below.trod laidOut (by kernel_rfl) (of_decide_eq_true (by kernel_rfl)) k1 bel lt1) (trodAll_cons_mk (shut_string Tryd.underlying9 w2) trodAll_mk0))), rfl, bel.frame _, fun h => by cases h⟩

theorem bare : Rows.SessionAnswersSaid :=
  OpenClaim.holds_of_wide 10 Tryd.f10 rfl rfl rfl rfl rfl rfl rfl ⟨rfl, rfl, rfl, rfl, rfl⟩ rfl rfl rfl rfl rfl (by kernel_rfl) Tryd.func10 (by kernel_rfl)
    (of_decide_eq_true (by kernel_rfl)) (by unfold Func.isWrapper; first | (rw [if_pos (by decide +kernel)]; kernel_rfl) | (rw [if_neg (by decide +kernel)]; exact ⟨rfl, rfl⟩))
    (fun os started H enc _ => lifted os started H enc)

/-- the statement -/
theorem proved : Rows.SessionAnswersCardSaid :=
  Claim7.holds_tied_plain_at .later [] [.data, .data] true Rows.sessionAnswersCard.stood.harness false
    bare (fun _ h => by cases h) (by kernel_rfl) (fun _ h => by cases h) sessionAnswers_row_tie rfl ⟨rfl, rfl⟩ (by kernel_rfl) rfl
    (fun f fn hf hfn => by
      obtain rfl : f = 10 := Option.some.inj ((show Tryd.prog.funcNamed "hibernacle/hibernaclelaw43.SessionAnswers" = some 10 by kernel_rfl).symm.trans hf) |>.symm
      obtain rfl : fn = Tryd.f10 := (Option.some.inj (Tryd.func10.symm.trans hfn)).symm
      exact ⟨by kernel_rfl, fun j t ht => by
        rw [Tryd.params10] at ht
        have hm : t ∈ [26, 26, 9] := by simpa using Array.mem_of_getElem? ht
        have hall : ([26, 26, 9].all fun u => !Tryd.prog.wantsStandIn u) = true := by kernel_rfl
        exact (show Tryd.prog.wantsStandIn t = false by simpa using List.all_eq_true.1 hall t hm)⟩)
    (by kernel_rfl)
end Go.Proofs.YtaoaebdjinlcnaaDoor.sessionAnswers
