/-
  For every two instructions: IsaUnlike answers true (they have one word, and one line, just if they are one), and the arguments read behind the call as they read before; the package tables are laid by the program's own text.
-/
import Derived.Test.YtmafeekhbcpomaaDoorRows
import Derived.Test.YtmafeekhbcpomaaDoorCards
import Derived.Test.YtmafeekhbcpomaaDoorTie
import Derived.Test.YtmafeekhbcpomaaDoorLa
import Derived.Test.YtmafeekhbcpomaaDoorLk
import Derived.WalkKit
import Derived.ProofKit
import Derived.LaidMore
import Derived.OpenShut
import Derived.ShutString
import Derived.Stop.Joined
import Derived.OrdersHeld
import Derived.Deep.RegionHeld3
namespace Go.Proofs.YtmafeekhbcpomaaDoor.isaUnlike
open Go.ChangeShapes Go.WideShapes Go.ChangeAt Go.RowKit
open Go.ChangeMaps (open_string shut_string)
set_option linter.unusedVariables false
set_option linter.unusedSimpArgs false

theorem own : ownKnob Tryd.prog.godebug = none := by kernel_rfl
theorem door_met (os : Os) (args : Array Value) : laidMetH Tryd.prog lay4 ((World.doorLaid Tryd.prog 400 os).forCall (fun _ _ => 0) ⟨#[], args, []⟩).memory :=
  laidMetH_of_parts3 (fuel := 8) (laidMet_of_run' 8 (by kernel_rfl) (by kernel_rfl)) (by kernel_rfl) (by kernel_rfl)
/-- two instructions lie in the call's first two blocks -/
structure Un (w wr : World) (x y : Is.Ins) : Prop where
  a : At wr w.heap.size x
  b : At wr (w.heap.size + 1) y
  t : Tab wr
  l : Below w.heap.size w wr
theorem Un.below {w wr w1 : World} {x y : Is.Ins} (o : Un w wr x y) (hx : Below wr.heap.size wr w1) : Un w w1 x y := ⟨o.a.below hx, o.b.below hx, o.t.below hx, o.l.trans (hx.mono o.l.size)⟩
theorem Un.drew {w wr : World} {x y : Is.Ins} (o : Un w wr x y) : Un w wr.drew x y := ⟨o.a.drew, o.b.drew, o.t.below (Below.drew (Below.refl _ _)), o.l.drew⟩
theorem yld {S : World → Prop} {ops : Array Oper} {o : Oper} {a : Act} {p : Operand} {g : Nat} {x : Is.Ins} (hw : Region.wanted o (yielded ops a.tmps) = true) (ho : o.op = .load 23 p) (hp : a.eval p = .pointer (some ⟨g, 0, none⟩)) (hS : ∀ w, S w → At w g x) :
    YieldsIf Tryd.prog ops S o (.agg (ic x)) a := by
  refine .inl ⟨hw, fun w h => ?_⟩
  obtain ⟨c0, c1, c2, c3, c4⟩ := hS w h
  unfold execOp
  simp only [ho, hp]
  go_simp
  rfl
theorem ycmp {S : World → Prop} {ops : Array Oper} {o : Oper} {a : Act} {p q : Operand} {x y : Is.Ins} {B : Bool} (hw : Region.wanted o (yielded ops a.tmps) = true) (ho : o.op = .binOp .eql 23 p q 23) (hp : a.eval p = .agg (ic x)) (hq : a.eval q = .agg (ic y)) (hB : decide (x = y) = B) :
    YieldsIf Tryd.prog ops S o (.bool B) a := by
  refine .inl ⟨hw, fun w h => ?_⟩
  have := exec_cmp false x y w a.eval p q hp hq o ho
  rw [hB] at this
  simpa using this
set_option maxRecDepth 100000 in
set_option maxHeartbeats 4000000 in
theorem walk (ha : ∀ wr, Tab wr → Al wr) (ht : ∀ (x : Is.Ins) (w : World), x.Ok → Tab w → Calls Tryd.prog 15 #[.agg (ic x)] w fun e w' => e = .returned (.string (st (txt x))) ∧ Below w.heap.size w w')
    (x y : Is.Ins) (hx : x.Ok) (hy : y.Ok) (W : World) (hT : Tab W) :
    Calls Tryd.prog 5 #[.agg (ic x), .agg (ic y)] W fun e w' => e = .returned (.bool true) ∧ Below W.heap.size W w' := by
  have h1 := fun wr => enc_any x hx wr
  have h2 := fun wr => enc_any y hy wr
  have t1 := fun wr T => ht x wr hx T
  have t2 := fun wr T => ht y wr hy T
  obtain ⟨V, hV⟩ : ∃ V, V = (W.alloc (Obj.cells (ic x) 23)).alloc (Obj.cells (ic y) 23) := ⟨_, rfl⟩
  have un : Un W V x y := by
    have z := two_new W x y 23
    rw [hV]
    exact ⟨z.a, z.b, hT.below z.w, z.w⟩
  have HV := Lib.hid hV
  clear hV ht hT hx hy
  have z1 : (Is.enc x).2 ≠ 0 → txt x = [] := fun h => by unfold txt; rw [if_pos h]
  have z2 : (Is.enc x).2 = 0 → (Is.enc y).2 = 0 → x ≠ y → txt x ≠ txt y := fun h1 h2 h3 h4 => h3 (txt_inj h1 h2 h4)
  have z3 : (Is.enc x).2 = 0 → (Is.enc y).2 = 0 → x ≠ y → (Is.enc x).1 ≠ (Is.enc y).1 := fun h1 h2 h3 h4 => h3 (by
    have a := Is.fields_enc (x := x) (w := (Is.enc x).1) (by rw [← h1])
    have b := Is.fields_enc (x := y) (w := (Is.enc y).1) (by rw [← h2])
    rw [← a, ← b, h4])
  by_cases hxy : x = y
  · subst hxy
    clear z2 z3
    generalize Is.enc x = r at *
    obtain ⟨v, n⟩ := r
    simp only at h1 h2 z1
    by_cases hn : n = 0
    · subst hn
      clear z1
      obtain ⟨o, a, b, c, m⟩ := x
      go_enter Tryd.func5, Tryd.ntmps5
      go_wp2_with fail
      change Calls _ _ _ ((W.alloc (Obj.cells (ic ⟨o, a, b, c, m⟩) 23)).alloc (Obj.cells (ic ⟨o, a, b, c, m⟩) 23)) _
      rw [← HV.out]
      clear HV
      refine (ha _ un.t).mono ?_
      rintro e w1 ⟨rfl, hx⟩
      replace un := un.below hx
      clear hx ha
      obtain ⟨k0, k1, k2, k3, k4⟩ := id un.a
      obtain ⟨j0, j1, j2, j3, j4⟩ := id un.b
      go_wp2_with fail
      refine (h1 _).mono ?_
      rintro e w2 ⟨rfl, hx⟩
      replace un := un.below hx
      clear hx h1 k0 k1 k2 k3 k4 j0 j1 j2 j3 j4
      obtain ⟨k0, k1, k2, k3, k4⟩ := id un.a
      obtain ⟨j0, j1, j2, j3, j4⟩ := id un.b
      go_wp2_with fail
      refine (h2 _).mono ?_
      rintro e w3 ⟨rfl, hx⟩
      replace un := un.below hx
      clear hx h2 k0 k1 k2 k3 k4 j0 j1 j2 j3 j4
      obtain ⟨k0, k1, k2, k3, k4⟩ := id un.a
      obtain ⟨j0, j1, j2, j3, j4⟩ := id un.b
      go_wp2_with fail
      refine wp_region_held_drew (S := fun u => Un W u ⟨o, a, b, c, m⟩ ⟨o, a, b, c, m⟩) (by kernel_rfl) un.drew (fun hHeld => ?_)
      clear un k0 k1 k2 k3 k4 j0 j1 j2 j3 j4
      generalize w3.drew = w4 at *
      refine wpAnyH_take (i := 0) (oi := { dst := some 34, op := Op.move (Operand.tmp 5), type := _, pos := _, after := _, guard := _ }) (v := ?_) rfl (by kernel_rfl) (by kernel_rfl) (by kernel_rfl) (fun _ _ _ h => h) (Or.inl ⟨by rfl, ?_⟩) hHeld ?_
      rotate_left
      · intro wq hSw
        go_simp
        rfl
      try simp only [Act.put, List.setIfInBounds_toArray, List.set_cons_zero, List.set_cons_succ]
      refine wpAnyH_take (i := 1) (oi := { dst := some 35, op := Op.move (Operand.tmp 7), type := _, pos := _, after := _, guard := _ }) (v := ?_) rfl (by kernel_rfl) (by kernel_rfl) (by kernel_rfl) (fun _ _ _ h => h) (Or.inl ⟨by rfl, ?_⟩) hHeld ?_
      rotate_left
      · intro wq hSw
        go_simp
        rfl
      try simp only [Act.put, List.setIfInBounds_toArray, List.set_cons_zero, List.set_cons_succ]
      refine wpAnyH_take (i := 2) (oi := { dst := some 36, op := Op.binOp BinOp.eql 25 (Operand.tmp 34) (Operand.tmp 35) 25, type := _, pos := _, after := _, guard := _ }) (v := ?_) rfl (by kernel_rfl) (by kernel_rfl) (by kernel_rfl) (fun _ _ _ h => h) (Or.inl ⟨by rfl, ?_⟩) hHeld ?_
      rotate_left
      · intro wq hSw
        go_simp
        rfl
      try simp only [Act.put, List.setIfInBounds_toArray, List.set_cons_zero, List.set_cons_succ]
      refine wpAnyH_take (i := 3) (oi := { dst := some 37, op := Op.load 23 (Operand.tmp 2), type := _, pos := _, after := _, guard := _ }) rfl (by kernel_rfl) (by kernel_rfl) (by kernel_rfl) (fun _ _ _ h => h) (yld rfl rfl rfl (fun w1 h => h.a)) hHeld ?_
      try simp only [Act.put, List.setIfInBounds_toArray, List.set_cons_zero, List.set_cons_succ]
      refine wpAnyH_take (i := 4) (oi := { dst := some 38, op := Op.load 23 (Operand.tmp 3), type := _, pos := _, after := _, guard := _ }) rfl (by kernel_rfl) (by kernel_rfl) (by kernel_rfl) (fun _ _ _ h => h) (yld rfl rfl rfl (fun w1 h => h.b)) hHeld ?_
      try simp only [Act.put, List.setIfInBounds_toArray, List.set_cons_zero, List.set_cons_succ]
      refine wpAnyH_take (i := 5) (oi := { dst := some 39, op := Op.binOp BinOp.eql 23 (Operand.tmp 37) (Operand.tmp 38) 23, type := _, pos := _, after := _, guard := _ }) rfl (by kernel_rfl) (by kernel_rfl) (by kernel_rfl) (fun _ _ _ h => h) (ycmp (B := true) rfl rfl rfl rfl (decide_eq_true rfl)) hHeld ?_
      try simp only [Act.put, List.setIfInBounds_toArray, List.set_cons_zero, List.set_cons_succ]
      refine wpAnyH_take (i := 6) (oi := { dst := some 40, op := Op.binOp BinOp.eql 4 (Operand.tmp 36) (Operand.tmp 39) 4, type := _, pos := _, after := _, guard := _ }) (v := ?_) rfl (by kernel_rfl) (by kernel_rfl) (by kernel_rfl) (fun _ _ _ h => h) (Or.inl ⟨by rfl, ?_⟩) hHeld ?_
      rotate_left
      · intro wq hSw
        go_simp
        rfl
      try simp only [Act.put, List.setIfInBounds_toArray, List.set_cons_zero, List.set_cons_succ]
      refine wpAnyH_take (i := 7) (oi := { dst := some 41, op := Op.move (Operand.tmp 40), type := _, pos := _, after := _, guard := _ }) (v := ?_) rfl (by kernel_rfl) (by kernel_rfl) (by kernel_rfl) (fun _ _ _ h => h) (Or.inl ⟨by rfl, ?_⟩) hHeld ?_
      rotate_left
      · intro wq hSw
        go_simp
        rfl
      try simp only [Act.put, List.setIfInBounds_toArray, List.set_cons_zero, List.set_cons_succ]
      refine wpAnyH_take (i := 8) (oi := { dst := some 42, op := Op.load 23 (Operand.tmp 2), type := _, pos := _, after := _, guard := _ }) rfl (by kernel_rfl) (by kernel_rfl) (by kernel_rfl) (fun _ _ _ h => h) (yld rfl rfl rfl (fun w1 h => h.a)) hHeld ?_
      try simp only [Act.put, List.setIfInBounds_toArray, List.set_cons_zero, List.set_cons_succ]
      refine wpAnyH_take (i := 10) (oi := { dst := some 44, op := Op.load 23 (Operand.tmp 3), type := _, pos := _, after := _, guard := _ }) rfl (by kernel_rfl) (by kernel_rfl) (by kernel_rfl) (fun _ _ _ h => h) (yld rfl rfl rfl (fun w1 h => h.b)) hHeld ?_
      try simp only [Act.put, List.setIfInBounds_toArray, List.set_cons_zero, List.set_cons_succ]
      refine wpAnyH_take (i := 13) (oi := { dst := some 47, op := Op.load 23 (Operand.tmp 2), type := _, pos := _, after := _, guard := _ }) rfl (by kernel_rfl) (by kernel_rfl) (by kernel_rfl) (fun _ _ _ h => h) (yld rfl rfl rfl (fun w1 h => h.a)) hHeld ?_
      try simp only [Act.put, List.setIfInBounds_toArray, List.set_cons_zero, List.set_cons_succ]
      refine wpAnyH_take (i := 14) (oi := { dst := some 48, op := Op.load 23 (Operand.tmp 3), type := _, pos := _, after := _, guard := _ }) rfl (by kernel_rfl) (by kernel_rfl) (by kernel_rfl) (fun _ _ _ h => h) (yld rfl rfl rfl (fun w1 h => h.b)) hHeld ?_
      try simp only [Act.put, List.setIfInBounds_toArray, List.set_cons_zero, List.set_cons_succ]
      refine wpAnyH_take (i := 15) (oi := { dst := some 49, op := Op.binOp BinOp.eql 23 (Operand.tmp 47) (Operand.tmp 48) 23, type := _, pos := _, after := _, guard := _ }) rfl (by kernel_rfl) (by kernel_rfl) (by kernel_rfl) (fun _ _ _ h => h) (ycmp (B := true) rfl rfl rfl rfl (decide_eq_true rfl)) hHeld ?_
      try simp only [Act.put, List.setIfInBounds_toArray, List.set_cons_zero, List.set_cons_succ]
      refine wpAnyH_ready (rs := [9]) (by kernel_rfl) (by simp) ?_
      refine AllReadyH.cons (o := { dst := some 43, op := Op.call { callee := Callee.value (Operand.func 15), args := #[Operand.tmp 42], argTypes := #[23] }, type := _, pos := _, after := _, guard := _ }) rfl (fun KK hKK => ?_) AllReadyH.nil
      have hKS := Lib.hid hKK
      clear hKK
      go_simp
      refine (t1 _ hHeld.t).mono ?_
      rintro e w9 ⟨rfl, hx⟩
      go_wp2_with fail
      refine hKS.out.out _ _ (hHeld.below hx) (fun hHeld => ?_)
      clear hKS KK hx
      try simp only [Act.put, List.setIfInBounds_toArray, List.set_cons_zero, List.set_cons_succ]
      refine wpAnyH_ready (rs := [11]) (by kernel_rfl) (by simp) ?_
      refine AllReadyH.cons (o := { dst := some 45, op := Op.call { callee := Callee.value (Operand.func 15), args := #[Operand.tmp 44], argTypes := #[23] }, type := _, pos := _, after := _, guard := _ }) rfl (fun KK hKK => ?_) AllReadyH.nil
      have hKS := Lib.hid hKK
      clear hKK
      go_simp
      refine (t2 _ hHeld.t).mono ?_
      rintro e w11 ⟨rfl, hx⟩
      go_wp2_with fail
      refine hKS.out.out _ _ (hHeld.below hx) (fun hHeld => ?_)
      clear hKS KK hx
      try simp only [Act.put, List.setIfInBounds_toArray, List.set_cons_zero, List.set_cons_succ]
      refine wpAnyH_take (i := 12) (oi := { dst := some 46, op := Op.binOp BinOp.eql 9 (Operand.tmp 43) (Operand.tmp 45) 9, type := _, pos := _, after := _, guard := _ }) (v := ?_) rfl (by kernel_rfl) (by kernel_rfl) (by kernel_rfl) (fun _ _ _ h => h) (Or.inl ⟨by rfl, ?_⟩) hHeld ?_
      rotate_left
      · intro wq hSw
        go_simp
        rfl
      try simp only [Act.put, List.setIfInBounds_toArray, List.set_cons_zero, List.set_cons_succ]
      refine wpAnyH_take (i := 16) (oi := { dst := some 50, op := Op.binOp BinOp.eql 4 (Operand.tmp 46) (Operand.tmp 49) 4, type := _, pos := _, after := _, guard := _ }) (v := ?_) rfl (by kernel_rfl) (by kernel_rfl) (by kernel_rfl) (fun _ _ _ h => h) (Or.inl ⟨by rfl, ?_⟩) hHeld ?_
      rotate_left
      · intro wq hSw
        go_simp
        rfl
      try simp only [Act.put, List.setIfInBounds_toArray, List.set_cons_zero, List.set_cons_succ]
      refine wpAnyH_take (i := 17) (oi := { dst := some 51, op := Op.pick (Operand.tmp 41) (Operand.tmp 50) (Operand.const (Value.bool false)), type := _, pos := _, after := _, guard := _ }) (v := ?_) rfl (by kernel_rfl) (by kernel_rfl) (by kernel_rfl) (fun _ _ _ h => h) (Or.inl ⟨by rfl, ?_⟩) hHeld ?_
      rotate_left
      · intro wq hSw
        go_simp
        rfl
      try simp only [Act.put, List.setIfInBounds_toArray, List.set_cons_zero, List.set_cons_succ]
      refine wpAnyH_take (i := 18) (oi := { dst := some 4, op := Op.assign (Operand.tmp 51), type := _, pos := _, after := _, guard := _ }) (v := ?_) rfl (by kernel_rfl) (by kernel_rfl) (by kernel_rfl) (fun _ _ _ h => h) (Or.inl ⟨by rfl, ?_⟩) hHeld ?_
      rotate_left
      · intro wq hSw
        go_simp
        rfl
      try simp only [Act.put, List.setIfInBounds_toArray, List.set_cons_zero, List.set_cons_succ]
      refine wpAnyH_done (by kernel_rfl) ?_ _
      go_wp2_with fail
      go_ret
      exact ⟨rfl, hHeld.l⟩
    · have i1 : ((n : Int) == 0) = false := by rw [beq_eq_false_iff_ne]; omega
      have i2 : ((n : Int) != 0) = true := by rw [bne, i1]; rfl
      rw [z1 hn] at t1
      clear z1 hn t2
      have s1 : (st []).toList = [] := by rw [Go.ByteArray.toList_eq]; rfl
      have s2 : (⟨#[]⟩ : ByteArray).toList = [] := by rw [Go.ByteArray.toList_eq]
      obtain ⟨o, a, b, c, m⟩ := x
      go_enter Tryd.func5, Tryd.ntmps5
      go_wp2_with fail
      change Calls _ _ _ ((W.alloc (Obj.cells (ic ⟨o, a, b, c, m⟩) 23)).alloc (Obj.cells (ic ⟨o, a, b, c, m⟩) 23)) _
      rw [← HV.out]
      clear HV
      refine (ha _ un.t).mono ?_
      rintro e w1 ⟨rfl, hx⟩
      replace un := un.below hx
      clear hx ha
      obtain ⟨k0, k1, k2, k3, k4⟩ := id un.a
      obtain ⟨j0, j1, j2, j3, j4⟩ := id un.b
      go_wp2_with fail
      refine (h1 _).mono ?_
      rintro e w2 ⟨rfl, hx⟩
      replace un := un.below hx
      clear hx h1 k0 k1 k2 k3 k4 j0 j1 j2 j3 j4
      obtain ⟨k0, k1, k2, k3, k4⟩ := id un.a
      obtain ⟨j0, j1, j2, j3, j4⟩ := id un.b
      go_wp2_with fail
      refine (h2 _).mono ?_
      rintro e w3 ⟨rfl, hx⟩
      replace un := un.below hx
      clear hx h2 k0 k1 k2 k3 k4 j0 j1 j2 j3 j4
      obtain ⟨k0, k1, k2, k3, k4⟩ := id un.a
      obtain ⟨j0, j1, j2, j3, j4⟩ := id un.b
      go_wp2_with fail
      refine (t1 _ un.t).mono ?_
      rintro e w4 ⟨rfl, hx⟩
      replace un := un.below hx
      go_wp2_with fail
      go_ret
      exact ⟨rfl, un.l⟩
  · have hd : decide (x = y) = false := decide_eq_false hxy
    generalize Is.enc x = r at *
    obtain ⟨v, n⟩ := r
    generalize Is.enc y = r2 at *
    obtain ⟨v2, n2⟩ := r2
    simp only at h1 h2 z1 z2 z3
    by_cases hn : n = 0
    · subst hn
      by_cases hn2 : n2 = 0
      · subst hn2
        have q1 : ((v : Int) == (v2 : Int)) = false := by rw [beq_eq_false_iff_ne]; have := z3 rfl rfl hxy; omega
        have q2 : ((st (txt x)).toList == (st (txt y)).toList) = false := by
          rw [beq_eq_false_iff_ne, Go.ByteArray.toList_eq, Go.ByteArray.toList_eq]
          intro h
          exact z2 rfl rfl hxy (by simpa [st] using h)
        clear z1 z2 z3 hxy
        generalize txt x = X at *
        generalize txt y = Y at *
        obtain ⟨o, a, b, c, m⟩ := x
        obtain ⟨o2, a2, b2, c2, m2⟩ := y
        go_enter Tryd.func5, Tryd.ntmps5
        go_wp2_with fail
        change Calls _ _ _ ((W.alloc (Obj.cells (ic ⟨o, a, b, c, m⟩) 23)).alloc (Obj.cells (ic ⟨o2, a2, b2, c2, m2⟩) 23)) _
        rw [← HV.out]
        clear HV
        refine (ha _ un.t).mono ?_
        rintro e w1 ⟨rfl, hx⟩
        replace un := un.below hx
        clear hx ha
        obtain ⟨k0, k1, k2, k3, k4⟩ := id un.a
        obtain ⟨j0, j1, j2, j3, j4⟩ := id un.b
        go_wp2_with fail
        refine (h1 _).mono ?_
        rintro e w2 ⟨rfl, hx⟩
        replace un := un.below hx
        clear hx h1 k0 k1 k2 k3 k4 j0 j1 j2 j3 j4
        obtain ⟨k0, k1, k2, k3, k4⟩ := id un.a
        obtain ⟨j0, j1, j2, j3, j4⟩ := id un.b
        go_wp2_with fail
        refine (h2 _).mono ?_
        rintro e w3 ⟨rfl, hx⟩
        replace un := un.below hx
        clear hx h2 k0 k1 k2 k3 k4 j0 j1 j2 j3 j4
        obtain ⟨k0, k1, k2, k3, k4⟩ := id un.a
        obtain ⟨j0, j1, j2, j3, j4⟩ := id un.b
        go_wp2_with fail
        refine wp_region_held_drew (S := fun u => Un W u ⟨o, a, b, c, m⟩ ⟨o2, a2, b2, c2, m2⟩) (by kernel_rfl) un.drew (fun hHeld => ?_)
        clear un k0 k1 k2 k3 k4 j0 j1 j2 j3 j4
        generalize w3.drew = w4 at *
        refine wpAnyH_take (i := 0) (oi := { dst := some 34, op := Op.move (Operand.tmp 5), type := _, pos := _, after := _, guard := _ }) (v := ?_) rfl (by kernel_rfl) (by kernel_rfl) (by kernel_rfl) (fun _ _ _ h => h) (Or.inl ⟨by rfl, ?_⟩) hHeld ?_
        rotate_left
        · intro wq hSw
          go_simp
          rfl
        try simp only [Act.put, List.setIfInBounds_toArray, List.set_cons_zero, List.set_cons_succ]
        refine wpAnyH_take (i := 1) (oi := { dst := some 35, op := Op.move (Operand.tmp 7), type := _, pos := _, after := _, guard := _ }) (v := ?_) rfl (by kernel_rfl) (by kernel_rfl) (by kernel_rfl) (fun _ _ _ h => h) (Or.inl ⟨by rfl, ?_⟩) hHeld ?_
        rotate_left
        · intro wq hSw
          go_simp
          rfl
        try simp only [Act.put, List.setIfInBounds_toArray, List.set_cons_zero, List.set_cons_succ]
        refine wpAnyH_take (i := 2) (oi := { dst := some 36, op := Op.binOp BinOp.eql 25 (Operand.tmp 34) (Operand.tmp 35) 25, type := _, pos := _, after := _, guard := _ }) (v := ?_) rfl (by kernel_rfl) (by kernel_rfl) (by kernel_rfl) (fun _ _ _ h => h) (Or.inl ⟨by rfl, ?_⟩) hHeld ?_
        rotate_left
        · intro wq hSw
          go_simp
          rfl
        try simp only [Act.put, List.setIfInBounds_toArray, List.set_cons_zero, List.set_cons_succ]
        refine wpAnyH_take (i := 3) (oi := { dst := some 37, op := Op.load 23 (Operand.tmp 2), type := _, pos := _, after := _, guard := _ }) rfl (by kernel_rfl) (by kernel_rfl) (by kernel_rfl) (fun _ _ _ h => h) (yld rfl rfl rfl (fun w1 h => h.a)) hHeld ?_
        try simp only [Act.put, List.setIfInBounds_toArray, List.set_cons_zero, List.set_cons_succ]
        refine wpAnyH_take (i := 4) (oi := { dst := some 38, op := Op.load 23 (Operand.tmp 3), type := _, pos := _, after := _, guard := _ }) rfl (by kernel_rfl) (by kernel_rfl) (by kernel_rfl) (fun _ _ _ h => h) (yld rfl rfl rfl (fun w1 h => h.b)) hHeld ?_
        try simp only [Act.put, List.setIfInBounds_toArray, List.set_cons_zero, List.set_cons_succ]
        refine wpAnyH_take (i := 5) (oi := { dst := some 39, op := Op.binOp BinOp.eql 23 (Operand.tmp 37) (Operand.tmp 38) 23, type := _, pos := _, after := _, guard := _ }) rfl (by kernel_rfl) (by kernel_rfl) (by kernel_rfl) (fun _ _ _ h => h) (ycmp (B := false) rfl rfl rfl rfl hd) hHeld ?_
        try simp only [Act.put, List.setIfInBounds_toArray, List.set_cons_zero, List.set_cons_succ]
        refine wpAnyH_take (i := 6) (oi := { dst := some 40, op := Op.binOp BinOp.eql 4 (Operand.tmp 36) (Operand.tmp 39) 4, type := _, pos := _, after := _, guard := _ }) (v := ?_) rfl (by kernel_rfl) (by kernel_rfl) (by kernel_rfl) (fun _ _ _ h => h) (Or.inl ⟨by rfl, ?_⟩) hHeld ?_
        rotate_left
        · intro wq hSw
          go_simp
          rfl
        try simp only [Act.put, List.setIfInBounds_toArray, List.set_cons_zero, List.set_cons_succ]
        refine wpAnyH_take (i := 7) (oi := { dst := some 41, op := Op.move (Operand.tmp 40), type := _, pos := _, after := _, guard := _ }) (v := ?_) rfl (by kernel_rfl) (by kernel_rfl) (by kernel_rfl) (fun _ _ _ h => h) (Or.inl ⟨by rfl, ?_⟩) hHeld ?_
        rotate_left
        · intro wq hSw
          go_simp
          rfl
        try simp only [Act.put, List.setIfInBounds_toArray, List.set_cons_zero, List.set_cons_succ]
        refine wpAnyH_take (i := 8) (oi := { dst := some 42, op := Op.load 23 (Operand.tmp 2), type := _, pos := _, after := _, guard := _ }) rfl (by kernel_rfl) (by kernel_rfl) (by kernel_rfl) (fun _ _ _ h => h) (yld rfl rfl rfl (fun w1 h => h.a)) hHeld ?_
        try simp only [Act.put, List.setIfInBounds_toArray, List.set_cons_zero, List.set_cons_succ]
        refine wpAnyH_take (i := 10) (oi := { dst := some 44, op := Op.load 23 (Operand.tmp 3), type := _, pos := _, after := _, guard := _ }) rfl (by kernel_rfl) (by kernel_rfl) (by kernel_rfl) (fun _ _ _ h => h) (yld rfl rfl rfl (fun w1 h => h.b)) hHeld ?_
        try simp only [Act.put, List.setIfInBounds_toArray, List.set_cons_zero, List.set_cons_succ]
        refine wpAnyH_take (i := 13) (oi := { dst := some 47, op := Op.load 23 (Operand.tmp 2), type := _, pos := _, after := _, guard := _ }) rfl (by kernel_rfl) (by kernel_rfl) (by kernel_rfl) (fun _ _ _ h => h) (yld rfl rfl rfl (fun w1 h => h.a)) hHeld ?_
        try simp only [Act.put, List.setIfInBounds_toArray, List.set_cons_zero, List.set_cons_succ]
        refine wpAnyH_take (i := 14) (oi := { dst := some 48, op := Op.load 23 (Operand.tmp 3), type := _, pos := _, after := _, guard := _ }) rfl (by kernel_rfl) (by kernel_rfl) (by kernel_rfl) (fun _ _ _ h => h) (yld rfl rfl rfl (fun w1 h => h.b)) hHeld ?_
        try simp only [Act.put, List.setIfInBounds_toArray, List.set_cons_zero, List.set_cons_succ]
        refine wpAnyH_take (i := 15) (oi := { dst := some 49, op := Op.binOp BinOp.eql 23 (Operand.tmp 47) (Operand.tmp 48) 23, type := _, pos := _, after := _, guard := _ }) rfl (by kernel_rfl) (by kernel_rfl) (by kernel_rfl) (fun _ _ _ h => h) (ycmp (B := false) rfl rfl rfl rfl hd) hHeld ?_
        try simp only [Act.put, List.setIfInBounds_toArray, List.set_cons_zero, List.set_cons_succ]
        refine wpAnyH_ready (rs := [9]) (by kernel_rfl) (by simp) ?_
        refine AllReadyH.cons (o := { dst := some 43, op := Op.call { callee := Callee.value (Operand.func 15), args := #[Operand.tmp 42], argTypes := #[23] }, type := _, pos := _, after := _, guard := _ }) rfl (fun KK hKK => ?_) AllReadyH.nil
        have hKS := Lib.hid hKK
        clear hKK
        go_simp
        refine (t1 _ hHeld.t).mono ?_
        rintro e w9 ⟨rfl, hx⟩
        go_wp2_with fail
        refine hKS.out.out _ _ (hHeld.below hx) (fun hHeld => ?_)
        clear hKS KK hx
        try simp only [Act.put, List.setIfInBounds_toArray, List.set_cons_zero, List.set_cons_succ]
        refine wpAnyH_ready (rs := [11]) (by kernel_rfl) (by simp) ?_
        refine AllReadyH.cons (o := { dst := some 45, op := Op.call { callee := Callee.value (Operand.func 15), args := #[Operand.tmp 44], argTypes := #[23] }, type := _, pos := _, after := _, guard := _ }) rfl (fun KK hKK => ?_) AllReadyH.nil
        have hKS := Lib.hid hKK
        clear hKK
        go_simp
        refine (t2 _ hHeld.t).mono ?_
        rintro e w11 ⟨rfl, hx⟩
        go_wp2_with fail
        refine hKS.out.out _ _ (hHeld.below hx) (fun hHeld => ?_)
        clear hKS KK hx
        try simp only [Act.put, List.setIfInBounds_toArray, List.set_cons_zero, List.set_cons_succ]
        refine wpAnyH_take (i := 12) (oi := { dst := some 46, op := Op.binOp BinOp.eql 9 (Operand.tmp 43) (Operand.tmp 45) 9, type := _, pos := _, after := _, guard := _ }) (v := ?_) rfl (by kernel_rfl) (by kernel_rfl) (by kernel_rfl) (fun _ _ _ h => h) (Or.inl ⟨by rfl, ?_⟩) hHeld ?_
        rotate_left
        · intro wq hSw
          go_simp
          rfl
        try simp only [Act.put, List.setIfInBounds_toArray, List.set_cons_zero, List.set_cons_succ]
        refine wpAnyH_take (i := 16) (oi := { dst := some 50, op := Op.binOp BinOp.eql 4 (Operand.tmp 46) (Operand.tmp 49) 4, type := _, pos := _, after := _, guard := _ }) (v := ?_) rfl (by kernel_rfl) (by kernel_rfl) (by kernel_rfl) (fun _ _ _ h => h) (Or.inl ⟨by rfl, ?_⟩) hHeld ?_
        rotate_left
        · intro wq hSw
          go_simp
          rfl
        try simp only [Act.put, List.setIfInBounds_toArray, List.set_cons_zero, List.set_cons_succ]
        refine wpAnyH_take (i := 17) (oi := { dst := some 51, op := Op.pick (Operand.tmp 41) (Operand.tmp 50) (Operand.const (Value.bool false)), type := _, pos := _, after := _, guard := _ }) (v := ?_) rfl (by kernel_rfl) (by kernel_rfl) (by kernel_rfl) (fun _ _ _ h => h) (Or.inl ⟨by rfl, ?_⟩) hHeld ?_
        rotate_left
        · intro wq hSw
          go_simp
          rfl
        try simp only [Act.put, List.setIfInBounds_toArray, List.set_cons_zero, List.set_cons_succ]
        refine wpAnyH_take (i := 18) (oi := { dst := some 4, op := Op.assign (Operand.tmp 51), type := _, pos := _, after := _, guard := _ }) (v := ?_) rfl (by kernel_rfl) (by kernel_rfl) (by kernel_rfl) (fun _ _ _ h => h) (Or.inl ⟨by rfl, ?_⟩) hHeld ?_
        rotate_left
        · intro wq hSw
          go_simp
          rfl
        try simp only [Act.put, List.setIfInBounds_toArray, List.set_cons_zero, List.set_cons_succ]
        refine wpAnyH_done (by kernel_rfl) ?_ _
        go_wp2_with fail
        go_ret
        exact ⟨rfl, hHeld.l⟩
      · have i1 : ((n2 : Int) == 0) = false := by rw [beq_eq_false_iff_ne]; omega
        have i2 : ((n2 : Int) != 0) = true := by rw [bne, i1]; rfl
        clear z1 z2 z3 hxy hd t1 t2 hn2
        obtain ⟨o, a, b, c, m⟩ := x
        obtain ⟨o2, a2, b2, c2, m2⟩ := y
        go_enter Tryd.func5, Tryd.ntmps5
        go_wp2_with fail
        change Calls _ _ _ ((W.alloc (Obj.cells (ic ⟨o, a, b, c, m⟩) 23)).alloc (Obj.cells (ic ⟨o2, a2, b2, c2, m2⟩) 23)) _
        rw [← HV.out]
        clear HV
        refine (ha _ un.t).mono ?_
        rintro e w1 ⟨rfl, hx⟩
        replace un := un.below hx
        clear hx ha
        obtain ⟨k0, k1, k2, k3, k4⟩ := id un.a
        obtain ⟨j0, j1, j2, j3, j4⟩ := id un.b
        go_wp2_with fail
        refine (h1 _).mono ?_
        rintro e w2 ⟨rfl, hx⟩
        replace un := un.below hx
        clear hx h1 k0 k1 k2 k3 k4 j0 j1 j2 j3 j4
        obtain ⟨k0, k1, k2, k3, k4⟩ := id un.a
        obtain ⟨j0, j1, j2, j3, j4⟩ := id un.b
        go_wp2_with fail
        refine (h2 _).mono ?_
        rintro e w3 ⟨rfl, hx⟩
        replace un := un.below hx
        clear hx h2 k0 k1 k2 k3 k4 j0 j1 j2 j3 j4
        obtain ⟨k0, k1, k2, k3, k4⟩ := id un.a
        obtain ⟨j0, j1, j2, j3, j4⟩ := id un.b
        go_wp2_with fail
        go_ret
        exact ⟨rfl, un.l⟩
    · have i1 : ((n : Int) == 0) = false := by rw [beq_eq_false_iff_ne]; omega
      have i2 : ((n : Int) != 0) = true := by rw [bne, i1]; rfl
      rw [z1 hn] at t1
      clear z1 z2 z3 hxy hd t2 hn
      have s1 : (st []).toList = [] := by rw [Go.ByteArray.toList_eq]; rfl
      have s2 : (⟨#[]⟩ : ByteArray).toList = [] := by rw [Go.ByteArray.toList_eq]
      obtain ⟨o, a, b, c, m⟩ := x
      obtain ⟨o2, a2, b2, c2, m2⟩ := y
      go_enter Tryd.func5, Tryd.ntmps5
      go_wp2_with fail
      change Calls _ _ _ ((W.alloc (Obj.cells (ic ⟨o, a, b, c, m⟩) 23)).alloc (Obj.cells (ic ⟨o2, a2, b2, c2, m2⟩) 23)) _
      rw [← HV.out]
      clear HV
      refine (ha _ un.t).mono ?_
      rintro e w1 ⟨rfl, hx⟩
      replace un := un.below hx
      clear hx ha
      obtain ⟨k0, k1, k2, k3, k4⟩ := id un.a
      obtain ⟨j0, j1, j2, j3, j4⟩ := id un.b
      go_wp2_with fail
      refine (h1 _).mono ?_
      rintro e w2 ⟨rfl, hx⟩
      replace un := un.below hx
      clear hx h1 k0 k1 k2 k3 k4 j0 j1 j2 j3 j4
      obtain ⟨k0, k1, k2, k3, k4⟩ := id un.a
      obtain ⟨j0, j1, j2, j3, j4⟩ := id un.b
      go_wp2_with fail
      refine (h2 _).mono ?_
      rintro e w3 ⟨rfl, hx⟩
      replace un := un.below hx
      clear hx h2 k0 k1 k2 k3 k4 j0 j1 j2 j3 j4
      obtain ⟨k0, k1, k2, k3, k4⟩ := id un.a
      obtain ⟨j0, j1, j2, j3, j4⟩ := id un.b
      go_wp2_with fail
      refine (t1 _ un.t).mono ?_
      rintro e w4 ⟨rfl, hx⟩
      replace un := un.below hx
      go_wp2_with fail
      go_ret
      exact ⟨rfl, un.l⟩

set_option maxRecDepth 100000 in
theorem lifted (os : Os) (started : os.Started) (H : Type) (enc : TypeId × Value → H) :
    ReturnsInHanded {} Tryd.checked os 5 .any (fun w args => (Rows.isaUnlikeSpec.pre enc Tryd.prog Tryd.f5 [] false w args ∧ laidMetH Tryd.prog lay4 w) ∧ sizedMet enc Tryd.prog Tryd.f5 (OpenSpec.ofChange Rows.isaUnlikeSpec) false w args)
      (Rows.isaUnlikeSpec.post enc Tryd.prog Tryd.f5 false true false false) := by
  refine returnsInHanded_of_change_and (C := Tryd.checked) (X := fun w _ => laidMetH Tryd.prog lay4 w) (fun _ _ _ hh h => h.of_heap hh) own started (by kernel_rfl) Tryd.func5
    (ChangeSpec.witness_shaped (enc := enc) (C := Tryd.checked) (os := os) (X := fun w _ => laidMetH Tryd.prog lay4 w) false (World.doorLaid Tryd.prog 400 os) #[.agg #[.int .u8 0, .int .u8 0, .int .u8 0, .int .u8 0, .int .i32 0], .agg #[.int .u8 0, .int .u8 0, .int .u8 0, .int .u8 0, .int .i32 0]] 8 rfl (World.shaped_of_RefB (by kernel_rfl) (by kernel_rfl)) (by kernel_rfl) (by kernel_rfl) (by kernel_rfl) (door_met os _)) ?_
  intro W base args ds gs before hval0 hW _ _ hL _
  have hval : ∀ (j : Nat) t v, Tryd.f5.params[j]? = some t → args[j]? = some v → Value.okWide Tryd.prog W .any base t v := hval0
  have hW' := hW
  obtain ⟨p, q, hA0, hV, rfl, hfz, hnd⟩ := hW
  have hA : DataW.TrodAll enc Tryd.prog W 0 (fun _ => true) true Tryd.f5.params.toList args.toList ds p := hA0
  rw [Tryd.params5] at hA hval
  obtain ⟨v0, vs0, d0, ds0, p0, q0, hargs, rfl, rfl, h0, r0⟩ := trodAll_cons hA
  obtain ⟨v1, vs1, d1, ds1, p1, q1, rfl, rfl, rfl, h1, r1⟩ := trodAll_cons r0
  obtain ⟨rfl, rfl, rfl⟩ := trodAll_nil r1
  obtain rfl : args = #[v0, v1] := by cases args; simp_all
  obtain ⟨rfl, rfl⟩ := trodVars_none hV
  obtain ⟨K0, rfl, b0⟩ := okIns (hval 0 23 v0 rfl rfl)
  have k0 := h0
  have lt0 : ∀ x ∈ p0, x.block < W.heap.size := by obtain ⟨m, hm⟩ := k0; exact DataW.trod_lt m _ _ _ hm
  obtain ⟨K1, rfl, b1⟩ := okIns (hval 1 23 v1 rfl rfl)
  have k1 := h1
  have lt1 : ∀ x ∈ p1, x.block < W.heap.size := by obtain ⟨m, hm⟩ := k1; exact DataW.trod_lt m _ _ _ hm
  have hT := of_laid hL
  clear hA0 hval0
  refine (walk (fun wr T => al_any wr T) (fun x w hx T => text_any x hx w T) K0 K1 b0 b1 W hT).mono fun e W' ⟨he, bel⟩ => ?_
  subst he
  exact ⟨_, rfl, _, _, _, [], _, [], hW', trodAll_mk1 (shut_bool Tryd.underlying4 _), (trodAll_cons_mk (Below.trod laidOut (by kernel_rfl) (of_decide_eq_true (by kernel_rfl)) k0 bel lt0) (trodAll_cons_mk (Below.trod laidOut (by kernel_rfl) (of_decide_eq_true (by kernel_rfl)) k1 bel lt1) trodAll_mk0)), rfl, bel.frame _, fun h => by cases h⟩

theorem bare : Rows.IsaUnlikeSaid :=
  OpenClaim.holds_of_wide 5 Tryd.f5 rfl rfl rfl rfl rfl rfl rfl ⟨rfl, rfl, rfl, rfl, rfl⟩ rfl rfl rfl rfl rfl (by kernel_rfl) Tryd.func5 (by kernel_rfl)
    (of_decide_eq_true (by kernel_rfl)) (by unfold Func.isWrapper; first | (rw [if_pos (by decide +kernel)]; kernel_rfl) | (rw [if_neg (by decide +kernel)]; exact ⟨rfl, rfl⟩))
    (fun os started H enc _ => lifted os started H enc)

/-- the statement -/
theorem proved : Rows.IsaUnlikeCardSaid :=
  Claim7.holds_tied_plain_at .later [] [.data, .data, .data, .data] true Rows.isaUnlikeCard.stood.harness false
    bare (fun _ h => by cases h) (by kernel_rfl) (fun _ h => by cases h) isaUnlike_row_tie rfl ⟨rfl, rfl⟩ (by kernel_rfl) rfl
    (fun f fn hf hfn => by
      obtain rfl : f = 5 := Option.some.inj ((show Tryd.prog.funcNamed "hibernacle/hibernaclelaw10.IsaUnlike" = some 5 by kernel_rfl).symm.trans hf) |>.symm
      obtain rfl : fn = Tryd.f5 := (Option.some.inj (Tryd.func5.symm.trans hfn)).symm
      exact ⟨by kernel_rfl, fun j t ht => by
        rw [Tryd.params5] at ht
        have hm : t ∈ [23, 23] := by simpa using Array.mem_of_getElem? ht
        have hall : ([23, 23].all fun u => !Tryd.prog.wantsStandIn u) = true := by kernel_rfl
        exact (show Tryd.prog.wantsStandIn t = false by simpa using List.all_eq_true.1 hall t hm)⟩)
    (by kernel_rfl)
end Go.Proofs.YtmafeekhbcpomaaDoor.isaUnlike
