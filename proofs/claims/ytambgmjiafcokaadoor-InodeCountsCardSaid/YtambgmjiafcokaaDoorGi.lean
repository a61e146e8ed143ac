/-
  THE WALK of the question where things are on a volume, of the code.
-/
import Derived.Test.YtambgmjiafcokaaDoorGh
import Derived.Deep.CutRange
namespace Go.Proofs.YtambgmjiafcokaaDoor
set_option linter.unusedVariables false
set_option maxRecDepth 100000
set_option linter.unusedSimpArgs false
open Go.RowKit
namespace Dw
open _root_.Go.Proofs.YtambgmjiafcokaaDoor.Nm
/-- two boxes: the answer's, and the plan's -/
structure Bx (w : World) (g : Nat) (b n : Nat) (w' : World) : Prop where
  o : Nm.Own w' g 58 (gc b n)
  r : Nm.Own w' w.heap.size 58 gz
  b : Below w.heap.size w w'
theorem Bx.below {w : World} {g b n : Nat} {w1 w2 : World} (h : Bx w g b n w1) (hx : Below w1.heap.size w1 w2) : Bx w g b n w2 := ⟨h.o.below hx, h.r.below hx, h.b.trans (hx.mono h.b.size)⟩
theorem Bx.drew {w : World} {g b n : Nat} {w1 : World} (h : Bx w g b n w1) : Bx w g b n w1.drew := ⟨h.o, h.r, h.b.drew⟩
theorem odr {w w' : World} {g : Nat} {t : TypeId} {cs : Array Value} (h : Nm.Own w g t cs) (k : Dr w w') : Nm.Own w' g t cs := by obtain ⟨n, rfl⟩ := k; exact h
theorem Bx.dr {w : World} {g b n : Nat} {w1 w2 : World} (h : Bx w g b n w1) (k : Dr w1 w2) : Bx w g b n w2 := ⟨odr h.o k, odr h.r k, below_dr h.b k⟩
theorem Bx.d0 {w : World} {g b n : Nat} {w1 : World} (h : Bx w g b n w1) : w1.cell? ⟨g, 0, none⟩ = some (.int .i64 (b : Int)) := h.o.cell 0
theorem Bx.d5 {w : World} {g b n : Nat} {w1 : World} (h : Bx w g b n w1) : w1.cell? ⟨g, 5, none⟩ = some (.int .i64 ((Gm.dat n : Nat) : Int)) := h.o.cell 5
set_option maxHeartbeats 4000000 in
theorem of_blk (A : Option Addr) (c : Nat) (l : List ByteArray) (w : World) (hl : Tz w A l.length c l) (hB : Blk l l.length) (hm : 0 < l.length) :
    Calls Tryd.prog 28 #[.slice A l.length c] w fun e w' => OfIs l e ∧ Below w.heap.size w w' := by
  have hb := grow w (Obj.cells gz 58)
  have r0 := Nm.Own.new w 58 gz
  have hct := contains_any A l.length c l _ (hl.below hb) hB.lit
  have hmm := hl.m
  have hs := hB 0 hm
  have hg4 : ∀ wr, Calls Tryd.prog 25 #[.string ((nth l 0).extract 4 6)] wr fun e w' => e = .returned (.int .u64 (n4 (nth l 0) : Nat)) ∧ wr = w' := fun wr => get_any _ wr (by rw [ByteArray.size_extract]; omega)
  have hg6 : ∀ wr, Calls Tryd.prog 25 #[.string ((nth l 0).extract 6 8)] wr fun e w' => e = .returned (.int .u64 (n6 (nth l 0) : Nat)) ∧ wr = w' := fun wr => get_any _ wr (by rw [ByteArray.size_extract]; omega)
  have hx := n4_lt (nth l 0)
  have hy := n6_lt (nth l 0)
  have hV : ∀ b n, Vol l b n → l.length = b ∧ n4 (nth l 0) = b ∧ n6 (nth l 0) = n ∧ Gm.fits b n ∧ nth l 0 = headT b n ∧ Gm.okMap (toL (nth l 2)) b n := fun b n h => ⟨h.len, h.n4, h.n6, h.fits, h.hd, h.map⟩
  have hmf := fun x y wr (hw : Below w.heap.size w wr) (h2 : 2 < l.length) (hf : Gm.fits x y) => mapfits_any A l.length c l x y wr (hl.below hw) h2 (hB 2 h2) hf
  have hY : ∀ y, Gm.fits l.length y → nth l 0 = headT l.length y → Gm.okMap (toL (nth l 2)) l.length y → Vol l l.length y := fun y a b c => ⟨rfl, hB, a, b, c⟩
  obtain ⟨bb, off, rfl, hc⟩ := hl.t.2 hm
  have hc0 : ∀ wq, Below w.heap.size w wq → wq.cell? ⟨bb, off, none⟩ = some (.string (nth l 0)) := fun wq hq => by
    obtain ⟨bb', off', e', hc'⟩ := (hl.below hq).t.2 hm
    injection e' with e'
    injection e' with e1 e2
    subst e1 e2
    exact hc' 0 hm
  have hplan := fun wr => plan_any (n4 (nth l 0) : Nat) (n6 (nth l 0) : Nat) wr
  have HV := Lib.hid hV
  have HY0 := Lib.hid hY
  have HBl := Lib.hid hB
  have HL := Lib.hid hl
  have HMF := Lib.hid hmf
  clear hV hY hB hc hl hmf
  generalize n4 (nth l 0) = x at *
  generalize n6 (nth l 0) = y at *
  have w1 : IntKind.i64.wrap (x : Int) = (x : Int) := IntWalk.i64_in _ (by omega)
  have w2 : IntKind.i64.wrap (y : Int) = (y : Int) := IntWalk.i64_in _ (by omega)
  have m0 : ¬ (l.length : Int) = 0 := by omega
  have m1 : ((l.length : Int) == 0) = false := by rw [beq_eq_false_iff_ne]; exact m0
  unfold fv at hct
  go_enter Tryd.func28, Tryd.ntmps28
  go_upto_region 4 with (refine hct.mono ?_; rintro e w' ⟨⟨r, rfl, hr⟩, rfl⟩; obtain rfl : r = false := hr.2 HBl.out)
  clear hct hr
  change Code.wp _ _ _ _ (w.alloc (Obj.cells gz 58))
  generalize w.alloc (Obj.cells gz 58) = W0 at *
  go_cut [5, 6] from 16 to 31 (fun s5 s6 wc => ∃ (g : Nat) (cs : Array Value) (k : Int), s5 = .pointer (some ⟨g, 0, none⟩) ∧ s6 = .int .i64 k ∧ Nm.Own wc g 58 cs ∧ PC x y cs k ∧ Nm.Own wc w.heap.size 58 gz ∧ Below w.heap.size w wc)
  case first =>
    refine wp_region_held_drew (S := fun w' => Nm.Own w' w.heap.size 58 gz ∧ Below w.heap.size w w') (by kernel_rfl) ⟨r0, hb.drew⟩ (fun hHeld => ?_)
    clear r0 hb
    generalize W0.drew = V0 at *
    generalize hB : w.heap.size = B at *
    refine wpAnyH_take (i := 0) (oi := { dst := some 17, op := Op.move (Operand.tmp 0), type := _, pos := _, after := _, guard := _ }) (v := ?_) rfl (by kernel_rfl) (by kernel_rfl) (by kernel_rfl) (fun _ _ _ h => h) (Or.inl ⟨by rfl, ?_⟩) hHeld ?_
    rotate_left
    · intro wq hSw
      go_simp
      rfl
    try simp only [Act.put, List.setIfInBounds_toArray, List.set_cons_zero, List.set_cons_succ]
    refine wpAnyH_take (i := 1) (oi := { dst := some 18, op := Op.indexAddr 22 (Operand.tmp 17) (Operand.const (Value.int IntKind.i64 0)), type := _, pos := _, after := _, guard := _ }) (v := ?_) rfl (by kernel_rfl) (by kernel_rfl) (by kernel_rfl) (fun _ _ _ h => h) (Or.inl ⟨by rfl, ?_⟩) hHeld ?_
    rotate_left
    · intro wq hSw
      go_simp
      rfl
    try simp only [Act.put, List.setIfInBounds_toArray, List.set_cons_zero, List.set_cons_succ]
    refine wpAnyH_take (i := 2) (oi := { dst := some 19, op := Op.load 9 (Operand.tmp 18), type := _, pos := _, after := _, guard := _ }) (v := ?_) rfl (by kernel_rfl) (by kernel_rfl) (by kernel_rfl) (fun _ _ _ h => h) (Or.inl ⟨by rfl, ?_⟩) hHeld ?_
    rotate_left
    · intro wq hSw
      have c0 := hc0 wq hSw.2
      go_simp
      rfl
    try simp only [Act.put, List.setIfInBounds_toArray, List.set_cons_zero, List.set_cons_succ]
    refine wpAnyH_take (i := 3) (oi := { dst := some 20, op := Op.slice 9 (Operand.tmp 19) (some (Operand.const (Value.int IntKind.i64 4))) (some (Operand.const (Value.int IntKind.i64 6))) none, type := _, pos := _, after := _, guard := _ }) (v := ?_) rfl (by kernel_rfl) (by kernel_rfl) (by kernel_rfl) (fun _ _ _ h => h) (Or.inl ⟨by rfl, ?_⟩) hHeld ?_
    rotate_left
    · intro wq hSw
      go_simp
      rfl
    try simp only [Act.put, List.setIfInBounds_toArray, List.set_cons_zero, List.set_cons_succ]
    refine wpAnyH_take (i := 6) (oi := { dst := some 23, op := Op.move (Operand.tmp 0), type := _, pos := _, after := _, guard := _ }) (v := ?_) rfl (by kernel_rfl) (by kernel_rfl) (by kernel_rfl) (fun _ _ _ h => h) (Or.inl ⟨by rfl, ?_⟩) hHeld ?_
    rotate_left
    · intro wq hSw
      go_simp
      rfl
    try simp only [Act.put, List.setIfInBounds_toArray, List.set_cons_zero, List.set_cons_succ]
    refine wpAnyH_take (i := 7) (oi := { dst := some 24, op := Op.indexAddr 22 (Operand.tmp 23) (Operand.const (Value.int IntKind.i64 0)), type := _, pos := _, after := _, guard := _ }) (v := ?_) rfl (by kernel_rfl) (by kernel_rfl) (by kernel_rfl) (fun _ _ _ h => h) (Or.inl ⟨by rfl, ?_⟩) hHeld ?_
    rotate_left
    · intro wq hSw
      go_simp
      rfl
    try simp only [Act.put, List.setIfInBounds_toArray, List.set_cons_zero, List.set_cons_succ]
    refine wpAnyH_take (i := 8) (oi := { dst := some 25, op := Op.load 9 (Operand.tmp 24), type := _, pos := _, after := _, guard := _ }) (v := ?_) rfl (by kernel_rfl) (by kernel_rfl) (by kernel_rfl) (fun _ _ _ h => h) (Or.inl ⟨by rfl, ?_⟩) hHeld ?_
    rotate_left
    · intro wq hSw
      have c0 := hc0 wq hSw.2
      go_simp
      rfl
    try simp only [Act.put, List.setIfInBounds_toArray, List.set_cons_zero, List.set_cons_succ]
    refine wpAnyH_take (i := 9) (oi := { dst := some 26, op := Op.slice 9 (Operand.tmp 25) (some (Operand.const (Value.int IntKind.i64 6))) (some (Operand.const (Value.int IntKind.i64 8))) none, type := _, pos := _, after := _, guard := _ }) (v := ?_) rfl (by kernel_rfl) (by kernel_rfl) (by kernel_rfl) (fun _ _ _ h => h) (Or.inl ⟨by rfl, ?_⟩) hHeld ?_
    rotate_left
    · intro wq hSw
      go_simp
      rfl
    try simp only [Act.put, List.setIfInBounds_toArray, List.set_cons_zero, List.set_cons_succ]
    refine wpAnyH_ready (rs := [4, 16]) (by kernel_rfl) (by simp) ?_
    refine AllReadyH.cons (o := { dst := some 21, op := Op.call { callee := Callee.value (Operand.func 25), args := #[Operand.tmp 20], argTypes := #[9] }, type := _, pos := _, after := _, guard := _ }) rfl (fun KK hKK => ?_) ?_
    · have hKS := Lib.hid hKK
      clear hKK
      go_simp
      refine (hg4 _).mono ?_
      rintro e w4 ⟨rfl, rfl⟩
      go_wp2_with fail
      refine hKS.out.out _ _ hHeld (fun hHeld => ?_)
      clear hKS KK
      try simp only [Act.put, List.setIfInBounds_toArray, List.set_cons_zero, List.set_cons_succ]
      refine wpAnyH_take (i := 5) (oi := { dst := some 22, op := Op.convert 55 3 (Operand.tmp 21), type := _, pos := _, after := _, guard := _ }) (v := ?_) rfl (by kernel_rfl) (by kernel_rfl) (by kernel_rfl) (fun _ _ _ h => h) (Or.inl ⟨by rfl, ?_⟩) hHeld ?_
      rotate_left
      · intro wq hSw
        go_simp
        rfl
      try simp only [Act.put, List.setIfInBounds_toArray, List.set_cons_zero, List.set_cons_succ]
      refine wpAnyH_ready (rs := [10, 16]) (by kernel_rfl) (by simp) ?_
      refine AllReadyH.cons (o := { dst := some 27, op := Op.call { callee := Callee.value (Operand.func 25), args := #[Operand.tmp 26], argTypes := #[9] }, type := _, pos := _, after := _, guard := _ }) rfl (fun KK hKK => ?_) ?_
      · have hKS := Lib.hid hKK
        clear hKK
        go_simp
        refine (hg6 _).mono ?_
        rintro e w10 ⟨rfl, rfl⟩
        go_wp2_with fail
        refine hKS.out.out _ _ hHeld (fun hHeld => ?_)
        clear hKS KK
        try simp only [Act.put, List.setIfInBounds_toArray, List.set_cons_zero, List.set_cons_succ]
        refine wpAnyH_take (i := 11) (oi := { dst := some 28, op := Op.convert 55 3 (Operand.tmp 27), type := _, pos := _, after := _, guard := _ }) (v := ?_) rfl (by kernel_rfl) (by kernel_rfl) (by kernel_rfl) (fun _ _ _ h => h) (Or.inl ⟨by rfl, ?_⟩) hHeld ?_
        rotate_left
        · intro wq hSw
          go_simp
          rfl
        try simp only [Act.put, List.setIfInBounds_toArray, List.set_cons_zero, List.set_cons_succ]
        refine wpAnyH_ready (rs := [12, 16]) (by kernel_rfl) (by simp) ?_
        refine AllReadyH.cons (o := { dst := some 29, op := Op.call { callee := Callee.value (Operand.func 34), args := #[Operand.tmp 22, Operand.tmp 28], argTypes := #[3, 3] }, type := _, pos := _, after := _, guard := _ }) rfl (fun KK hKK => ?_) ?_
        · have hKS := Lib.hid hKK
          clear hKK
          go_simp
          refine (hplan _).mono ?_
          rintro e w12 ⟨hp, hx⟩
          obtain ⟨cs, k, rfl, hpc⟩ := plan_cs hp
          clear hp
          go_wp2_with fail
          try replace og := og.below hx
          have hH2 : Nm.Own w12 B 58 gz ∧ Below B w w12 := ⟨hHeld.1.below hx, hHeld.2.trans (hx.mono (hB ▸ hHeld.2.size))⟩
          refine hKS.out.out _ _ hH2 (fun hHeld => ?_)
          clear hKS KK hx hH2
          try simp only [Act.put, List.setIfInBounds_toArray, List.set_cons_zero, List.set_cons_succ]
          refine wpAnyH_take (i := 13) (oi := { dst := some 16, op := Op.move (Operand.tmp 29), type := _, pos := _, after := _, guard := _ }) (v := ?_) rfl (by kernel_rfl) (by kernel_rfl) (by kernel_rfl) (fun _ _ _ h => h) (Or.inl ⟨by rfl, ?_⟩) hHeld ?_
          rotate_left
          · intro wq hSw
            go_simp
            rfl
          try simp only [Act.put, List.setIfInBounds_toArray, List.set_cons_zero, List.set_cons_succ]
          refine wpAnyH_take (i := 14) (oi := { dst := some 30, op := Op.extract (Operand.tmp 16) 0, type := _, pos := _, after := _, guard := _ }) (v := ?_) rfl (by kernel_rfl) (by kernel_rfl) (by kernel_rfl) (fun _ _ _ h => h) (Or.inl ⟨by rfl, ?_⟩) hHeld ?_
          rotate_left
          · intro wq hSw
            go_simp
            rfl
          try simp only [Act.put, List.setIfInBounds_toArray, List.set_cons_zero, List.set_cons_succ]
          refine wpAnyH_take (i := 15) (oi := { dst := some 31, op := Op.extract (Operand.tmp 16) 1, type := _, pos := _, after := _, guard := _ }) (v := ?_) rfl (by kernel_rfl) (by kernel_rfl) (by kernel_rfl) (fun _ _ _ h => h) (Or.inl ⟨by rfl, ?_⟩) hHeld ?_
          rotate_left
          · intro wq hSw
            go_simp
            rfl
          try simp only [Act.put, List.setIfInBounds_toArray, List.set_cons_zero, List.set_cons_succ]
          refine wpAnyH_ready (rs := [16]) (by kernel_rfl) (by simp) ?_
          refine AllReadyH.cons (o := { dst := some 5, op := Op.alloc 58, type := _, pos := _, after := _, guard := _ }) rfl (fun KK hKK => ?_) AllReadyH.nil
          have hKS := Lib.hid hKK
          clear hKK
          have og := Nm.Own.new w12 58 gz
          have hx := grow w12 (Obj.cells gz 58)
          have hgB : B < w12.heap.size := hHeld.1.lt
          go_simp
          have hH2 : Nm.Own (w12.alloc (Obj.cells gz 58)) B 58 gz ∧ Below B w (w12.alloc (Obj.cells gz 58)) := ⟨hHeld.1.below hx, hHeld.2.trans (hx.mono (hB ▸ hHeld.2.size))⟩
          refine hKS.out.out _ (w12.alloc (Obj.cells gz 58)) hH2 (fun hHeld => ?_)
          clear hKS KK hx hH2
          generalize World.alloc w12 (Obj.cells gz 58) = V16 at *
          generalize w12.heap.size = g at *
          try simp only [Act.put, List.setIfInBounds_toArray, List.set_cons_zero, List.set_cons_succ]
          refine wpAnyH_ready (rs := [17]) (by kernel_rfl) (by simp) ?_
          refine AllReadyH.cons (o := { dst := none, op := Op.store 58 (Operand.tmp 5) (Operand.tmp 30), type := _, pos := _, after := _, guard := _ }) rfl (fun KK hKK => ?_) AllReadyH.nil
          have hKS := Lib.hid hKK
          clear hKK
          have s7 := St.row V16 g cs
          have o7 : Nm.Own (V16.setRow g cs) g 58 cs := setRow_heap V16 g _ _ 58 (0, 0) og
          refine st24 (cs := cs) rfl (.tmp 5) (.tmp 30) rfl (by simp [Act.eval, Act.put]) (by simp [Act.eval, Act.put]) og hpc.one gz_one ?_
          have hH7 : Nm.Own (V16.setRow g cs) B 58 gz ∧ Below B w (V16.setRow g cs) := ⟨s7.own hHeld.1 (by omega), s7.below hHeld.2 (by omega)⟩
          refine hKS.out.out _ _ hH7 (fun hHeld => ?_)
          clear hKS KK s7 og hH7
          generalize World.setRow V16 g cs = W7 at *
          try simp only [Act.put, List.setIfInBounds_toArray, List.set_cons_zero, List.set_cons_succ]
          refine wpAnyH_take (i := 18) (oi := { dst := some 6, op := Op.assign (Operand.tmp 31), type := _, pos := _, after := _, guard := _ }) (v := ?_) rfl (by kernel_rfl) (by kernel_rfl) (by kernel_rfl) (fun _ _ _ h => h) (Or.inl ⟨by rfl, ?_⟩) hHeld ?_
          rotate_left
          · intro wq hSw
            go_simp
            rfl
          try simp only [Act.put, List.setIfInBounds_toArray, List.set_cons_zero, List.set_cons_succ]
          refine wpAnyH_done (by kernel_rfl) ?_ _
          go_wp2_with fail
          go_meet
          case rel => exact ⟨g, cs, k, rfl, rfl, o7, hpc, hHeld.1, hHeld.2⟩
        refine AllReadyH.cons (o := { dst := some 5, op := Op.alloc 58, type := _, pos := _, after := _, guard := _ }) rfl (fun KK hKK => ?_) AllReadyH.nil
        · have hKS := Lib.hid hKK
          clear hKK
          have og := Nm.Own.new V0 58 gz
          have hx := grow V0 (Obj.cells gz 58)
          have hgB : B < V0.heap.size := hHeld.1.lt
          go_simp
          have hH2 : Nm.Own (V0.alloc (Obj.cells gz 58)) B 58 gz ∧ Below B w (V0.alloc (Obj.cells gz 58)) := ⟨hHeld.1.below hx, hHeld.2.trans (hx.mono (hB ▸ hHeld.2.size))⟩
          refine hKS.out.out _ (V0.alloc (Obj.cells gz 58)) hH2 (fun hHeld => ?_)
          clear hKS KK hx hH2
          generalize World.alloc V0 (Obj.cells gz 58) = V16 at *
          generalize V0.heap.size = g at *
          try simp only [Act.put, List.setIfInBounds_toArray, List.set_cons_zero, List.set_cons_succ]
          refine wpAnyH_ready (rs := [12]) (by kernel_rfl) (by simp) ?_
          refine AllReadyH.cons (o := { dst := some 29, op := Op.call { callee := Callee.value (Operand.func 34), args := #[Operand.tmp 22, Operand.tmp 28], argTypes := #[3, 3] }, type := _, pos := _, after := _, guard := _ }) rfl (fun KK hKK => ?_) AllReadyH.nil
          have hKS := Lib.hid hKK
          clear hKK
          go_simp
          refine (hplan _).mono ?_
          rintro e w12 ⟨hp, hx⟩
          obtain ⟨cs, k, rfl, hpc⟩ := plan_cs hp
          clear hp
          go_wp2_with fail
          try replace og := og.below hx
          have hH2 : Nm.Own w12 B 58 gz ∧ Below B w w12 := ⟨hHeld.1.below hx, hHeld.2.trans (hx.mono (hB ▸ hHeld.2.size))⟩
          refine hKS.out.out _ _ hH2 (fun hHeld => ?_)
          clear hKS KK hx hH2
          try simp only [Act.put, List.setIfInBounds_toArray, List.set_cons_zero, List.set_cons_succ]
          refine wpAnyH_take (i := 13) (oi := { dst := some 16, op := Op.move (Operand.tmp 29), type := _, pos := _, after := _, guard := _ }) (v := ?_) rfl (by kernel_rfl) (by kernel_rfl) (by kernel_rfl) (fun _ _ _ h => h) (Or.inl ⟨by rfl, ?_⟩) hHeld ?_
          rotate_left
          · intro wq hSw
            go_simp
            rfl
          try simp only [Act.put, List.setIfInBounds_toArray, List.set_cons_zero, List.set_cons_succ]
          refine wpAnyH_take (i := 14) (oi := { dst := some 30, op := Op.extract (Operand.tmp 16) 0, type := _, pos := _, after := _, guard := _ }) (v := ?_) rfl (by kernel_rfl) (by kernel_rfl) (by kernel_rfl) (fun _ _ _ h => h) (Or.inl ⟨by rfl, ?_⟩) hHeld ?_
          rotate_left
          · intro wq hSw
            go_simp
            rfl
          try simp only [Act.put, List.setIfInBounds_toArray, List.set_cons_zero, List.set_cons_succ]
          refine wpAnyH_take (i := 15) (oi := { dst := some 31, op := Op.extract (Operand.tmp 16) 1, type := _, pos := _, after := _, guard := _ }) (v := ?_) rfl (by kernel_rfl) (by kernel_rfl) (by kernel_rfl) (fun _ _ _ h => h) (Or.inl ⟨by rfl, ?_⟩) hHeld ?_
          rotate_left
          · intro wq hSw
            go_simp
            rfl
          try simp only [Act.put, List.setIfInBounds_toArray, List.set_cons_zero, List.set_cons_succ]
          refine wpAnyH_ready (rs := [17]) (by kernel_rfl) (by simp) ?_
          refine AllReadyH.cons (o := { dst := none, op := Op.store 58 (Operand.tmp 5) (Operand.tmp 30), type := _, pos := _, after := _, guard := _ }) rfl (fun KK hKK => ?_) AllReadyH.nil
          have hKS := Lib.hid hKK
          clear hKK
          have s7 := St.row w12 g cs
          have o7 : Nm.Own (w12.setRow g cs) g 58 cs := setRow_heap w12 g _ _ 58 (0, 0) og
          refine st24 (cs := cs) rfl (.tmp 5) (.tmp 30) rfl (by simp [Act.eval, Act.put]) (by simp [Act.eval, Act.put]) og hpc.one gz_one ?_
          have hH7 : Nm.Own (w12.setRow g cs) B 58 gz ∧ Below B w (w12.setRow g cs) := ⟨s7.own hHeld.1 (by omega), s7.below hHeld.2 (by omega)⟩
          refine hKS.out.out _ _ hH7 (fun hHeld => ?_)
          clear hKS KK s7 og hH7
          generalize World.setRow w12 g cs = W7 at *
          try simp only [Act.put, List.setIfInBounds_toArray, List.set_cons_zero, List.set_cons_succ]
          refine wpAnyH_take (i := 18) (oi := { dst := some 6, op := Op.assign (Operand.tmp 31), type := _, pos := _, after := _, guard := _ }) (v := ?_) rfl (by kernel_rfl) (by kernel_rfl) (by kernel_rfl) (fun _ _ _ h => h) (Or.inl ⟨by rfl, ?_⟩) hHeld ?_
          rotate_left
          · intro wq hSw
            go_simp
            rfl
          try simp only [Act.put, List.setIfInBounds_toArray, List.set_cons_zero, List.set_cons_succ]
          refine wpAnyH_done (by kernel_rfl) ?_ _
          go_wp2_with fail
          go_meet
          case rel => exact ⟨g, cs, k, rfl, rfl, o7, hpc, hHeld.1, hHeld.2⟩
      refine AllReadyH.cons (o := { dst := some 5, op := Op.alloc 58, type := _, pos := _, after := _, guard := _ }) rfl (fun KK hKK => ?_) AllReadyH.nil
      · have hKS := Lib.hid hKK
        clear hKK
        have og := Nm.Own.new V0 58 gz
        have hx := grow V0 (Obj.cells gz 58)
        have hgB : B < V0.heap.size := hHeld.1.lt
        go_simp
        have hH2 : Nm.Own (V0.alloc (Obj.cells gz 58)) B 58 gz ∧ Below B w (V0.alloc (Obj.cells gz 58)) := ⟨hHeld.1.below hx, hHeld.2.trans (hx.mono (hB ▸ hHeld.2.size))⟩
        refine hKS.out.out _ (V0.alloc (Obj.cells gz 58)) hH2 (fun hHeld => ?_)
        clear hKS KK hx hH2
        generalize World.alloc V0 (Obj.cells gz 58) = V16 at *
        generalize V0.heap.size = g at *
        try simp only [Act.put, List.setIfInBounds_toArray, List.set_cons_zero, List.set_cons_succ]
        refine wpAnyH_ready (rs := [10]) (by kernel_rfl) (by simp) ?_
        refine AllReadyH.cons (o := { dst := some 27, op := Op.call { callee := Callee.value (Operand.func 25), args := #[Operand.tmp 26], argTypes := #[9] }, type := _, pos := _, after := _, guard := _ }) rfl (fun KK hKK => ?_) AllReadyH.nil
        have hKS := Lib.hid hKK
        clear hKK
        go_simp
        refine (hg6 _).mono ?_
        rintro e w10 ⟨rfl, rfl⟩
        go_wp2_with fail
        refine hKS.out.out _ _ hHeld (fun hHeld => ?_)
        clear hKS KK
        try simp only [Act.put, List.setIfInBounds_toArray, List.set_cons_zero, List.set_cons_succ]
        refine wpAnyH_take (i := 11) (oi := { dst := some 28, op := Op.convert 55 3 (Operand.tmp 27), type := _, pos := _, after := _, guard := _ }) (v := ?_) rfl (by kernel_rfl) (by kernel_rfl) (by kernel_rfl) (fun _ _ _ h => h) (Or.inl ⟨by rfl, ?_⟩) hHeld ?_
        rotate_left
        · intro wq hSw
          go_simp
          rfl
        try simp only [Act.put, List.setIfInBounds_toArray, List.set_cons_zero, List.set_cons_succ]
        refine wpAnyH_ready (rs := [12]) (by kernel_rfl) (by simp) ?_
        refine AllReadyH.cons (o := { dst := some 29, op := Op.call { callee := Callee.value (Operand.func 34), args := #[Operand.tmp 22, Operand.tmp 28], argTypes := #[3, 3] }, type := _, pos := _, after := _, guard := _ }) rfl (fun KK hKK => ?_) AllReadyH.nil
        have hKS := Lib.hid hKK
        clear hKK
        go_simp
        refine (hplan _).mono ?_
        rintro e w12 ⟨hp, hx⟩
        obtain ⟨cs, k, rfl, hpc⟩ := plan_cs hp
        clear hp
        go_wp2_with fail
        try replace og := og.below hx
        have hH2 : Nm.Own w12 B 58 gz ∧ Below B w w12 := ⟨hHeld.1.below hx, hHeld.2.trans (hx.mono (hB ▸ hHeld.2.size))⟩
        refine hKS.out.out _ _ hH2 (fun hHeld => ?_)
        clear hKS KK hx hH2
        try simp only [Act.put, List.setIfInBounds_toArray, List.set_cons_zero, List.set_cons_succ]
        refine wpAnyH_take (i := 13) (oi := { dst := some 16, op := Op.move (Operand.tmp 29), type := _, pos := _, after := _, guard := _ }) (v := ?_) rfl (by kernel_rfl) (by kernel_rfl) (by kernel_rfl) (fun _ _ _ h => h) (Or.inl ⟨by rfl, ?_⟩) hHeld ?_
        rotate_left
        · intro wq hSw
          go_simp
          rfl
        try simp only [Act.put, List.setIfInBounds_toArray, List.set_cons_zero, List.set_cons_succ]
        refine wpAnyH_take (i := 14) (oi := { dst := some 30, op := Op.extract (Operand.tmp 16) 0, type := _, pos := _, after := _, guard := _ }) (v := ?_) rfl (by kernel_rfl) (by kernel_rfl) (by kernel_rfl) (fun _ _ _ h => h) (Or.inl ⟨by rfl, ?_⟩) hHeld ?_
        rotate_left
        · intro wq hSw
          go_simp
          rfl
        try simp only [Act.put, List.setIfInBounds_toArray, List.set_cons_zero, List.set_cons_succ]
        refine wpAnyH_take (i := 15) (oi := { dst := some 31, op := Op.extract (Operand.tmp 16) 1, type := _, pos := _, after := _, guard := _ }) (v := ?_) rfl (by kernel_rfl) (by kernel_rfl) (by kernel_rfl) (fun _ _ _ h => h) (Or.inl ⟨by rfl, ?_⟩) hHeld ?_
        rotate_left
        · intro wq hSw
          go_simp
          rfl
        try simp only [Act.put, List.setIfInBounds_toArray, List.set_cons_zero, List.set_cons_succ]
        refine wpAnyH_ready (rs := [17]) (by kernel_rfl) (by simp) ?_
        refine AllReadyH.cons (o := { dst := none, op := Op.store 58 (Operand.tmp 5) (Operand.tmp 30), type := _, pos := _, after := _, guard := _ }) rfl (fun KK hKK => ?_) AllReadyH.nil
        have hKS := Lib.hid hKK
        clear hKK
        have s7 := St.row w12 g cs
        have o7 : Nm.Own (w12.setRow g cs) g 58 cs := setRow_heap w12 g _ _ 58 (0, 0) og
        refine st24 (cs := cs) rfl (.tmp 5) (.tmp 30) rfl (by simp [Act.eval, Act.put]) (by simp [Act.eval, Act.put]) og hpc.one gz_one ?_
        have hH7 : Nm.Own (w12.setRow g cs) B 58 gz ∧ Below B w (w12.setRow g cs) := ⟨s7.own hHeld.1 (by omega), s7.below hHeld.2 (by omega)⟩
        refine hKS.out.out _ _ hH7 (fun hHeld => ?_)
        clear hKS KK s7 og hH7
        generalize World.setRow w12 g cs = W7 at *
        try simp only [Act.put, List.setIfInBounds_toArray, List.set_cons_zero, List.set_cons_succ]
        refine wpAnyH_take (i := 18) (oi := { dst := some 6, op := Op.assign (Operand.tmp 31), type := _, pos := _, after := _, guard := _ }) (v := ?_) rfl (by kernel_rfl) (by kernel_rfl) (by kernel_rfl) (fun _ _ _ h => h) (Or.inl ⟨by rfl, ?_⟩) hHeld ?_
        rotate_left
        · intro wq hSw
          go_simp
          rfl
        try simp only [Act.put, List.setIfInBounds_toArray, List.set_cons_zero, List.set_cons_succ]
        refine wpAnyH_done (by kernel_rfl) ?_ _
        go_wp2_with fail
        go_meet
        case rel => exact ⟨g, cs, k, rfl, rfl, o7, hpc, hHeld.1, hHeld.2⟩
    refine AllReadyH.cons (o := { dst := some 5, op := Op.alloc 58, type := _, pos := _, after := _, guard := _ }) rfl (fun KK hKK => ?_) AllReadyH.nil
    · have hKS := Lib.hid hKK
      clear hKK
      have og := Nm.Own.new V0 58 gz
      have hx := grow V0 (Obj.cells gz 58)
      have hgB : B < V0.heap.size := hHeld.1.lt
      go_simp
      have hH2 : Nm.Own (V0.alloc (Obj.cells gz 58)) B 58 gz ∧ Below B w (V0.alloc (Obj.cells gz 58)) := ⟨hHeld.1.below hx, hHeld.2.trans (hx.mono (hB ▸ hHeld.2.size))⟩
      refine hKS.out.out _ (V0.alloc (Obj.cells gz 58)) hH2 (fun hHeld => ?_)
      clear hKS KK hx hH2
      generalize World.alloc V0 (Obj.cells gz 58) = V16 at *
      generalize V0.heap.size = g at *
      try simp only [Act.put, List.setIfInBounds_toArray, List.set_cons_zero, List.set_cons_succ]
      refine wpAnyH_ready (rs := [4]) (by kernel_rfl) (by simp) ?_
      refine AllReadyH.cons (o := { dst := some 21, op := Op.call { callee := Callee.value (Operand.func 25), args := #[Operand.tmp 20], argTypes := #[9] }, type := _, pos := _, after := _, guard := _ }) rfl (fun KK hKK => ?_) AllReadyH.nil
      have hKS := Lib.hid hKK
      clear hKK
      go_simp
      refine (hg4 _).mono ?_
      rintro e w4 ⟨rfl, rfl⟩
      go_wp2_with fail
      refine hKS.out.out _ _ hHeld (fun hHeld => ?_)
      clear hKS KK
      try simp only [Act.put, List.setIfInBounds_toArray, List.set_cons_zero, List.set_cons_succ]
      refine wpAnyH_take (i := 5) (oi := { dst := some 22, op := Op.convert 55 3 (Operand.tmp 21), type := _, pos := _, after := _, guard := _ }) (v := ?_) rfl (by kernel_rfl) (by kernel_rfl) (by kernel_rfl) (fun _ _ _ h => h) (Or.inl ⟨by rfl, ?_⟩) hHeld ?_
      rotate_left
      · intro wq hSw
        go_simp
        rfl
      try simp only [Act.put, List.setIfInBounds_toArray, List.set_cons_zero, List.set_cons_succ]
      refine wpAnyH_ready (rs := [10]) (by kernel_rfl) (by simp) ?_
      refine AllReadyH.cons (o := { dst := some 27, op := Op.call { callee := Callee.value (Operand.func 25), args := #[Operand.tmp 26], argTypes := #[9] }, type := _, pos := _, after := _, guard := _ }) rfl (fun KK hKK => ?_) AllReadyH.nil
      have hKS := Lib.hid hKK
      clear hKK
      go_simp
      refine (hg6 _).mono ?_
      rintro e w10 ⟨rfl, rfl⟩
      go_wp2_with fail
      refine hKS.out.out _ _ hHeld (fun hHeld => ?_)
      clear hKS KK
      try simp only [Act.put, List.setIfInBounds_toArray, List.set_cons_zero, List.set_cons_succ]
      refine wpAnyH_take (i := 11) (oi := { dst := some 28, op := Op.convert 55 3 (Operand.tmp 27), type := _, pos := _, after := _, guard := _ }) (v := ?_) rfl (by kernel_rfl) (by kernel_rfl) (by kernel_rfl) (fun _ _ _ h => h) (Or.inl ⟨by rfl, ?_⟩) hHeld ?_
      rotate_left
      · intro wq hSw
        go_simp
        rfl
      try simp only [Act.put, List.setIfInBounds_toArray, List.set_cons_zero, List.set_cons_succ]
      refine wpAnyH_ready (rs := [12]) (by kernel_rfl) (by simp) ?_
      refine AllReadyH.cons (o := { dst := some 29, op := Op.call { callee := Callee.value (Operand.func 34), args := #[Operand.tmp 22, Operand.tmp 28], argTypes := #[3, 3] }, type := _, pos := _, after := _, guard := _ }) rfl (fun KK hKK => ?_) AllReadyH.nil
      have hKS := Lib.hid hKK
      clear hKK
      go_simp
      refine (hplan _).mono ?_
      rintro e w12 ⟨hp, hx⟩
      obtain ⟨cs, k, rfl, hpc⟩ := plan_cs hp
      clear hp
      go_wp2_with fail
      try replace og := og.below hx
      have hH2 : Nm.Own w12 B 58 gz ∧ Below B w w12 := ⟨hHeld.1.below hx, hHeld.2.trans (hx.mono (hB ▸ hHeld.2.size))⟩
      refine hKS.out.out _ _ hH2 (fun hHeld => ?_)
      clear hKS KK hx hH2
      try simp only [Act.put, List.setIfInBounds_toArray, List.set_cons_zero, List.set_cons_succ]
      refine wpAnyH_take (i := 13) (oi := { dst := some 16, op := Op.move (Operand.tmp 29), type := _, pos := _, after := _, guard := _ }) (v := ?_) rfl (by kernel_rfl) (by kernel_rfl) (by kernel_rfl) (fun _ _ _ h => h) (Or.inl ⟨by rfl, ?_⟩) hHeld ?_
      rotate_left
      · intro wq hSw
        go_simp
        rfl
      try simp only [Act.put, List.setIfInBounds_toArray, List.set_cons_zero, List.set_cons_succ]
      refine wpAnyH_take (i := 14) (oi := { dst := some 30, op := Op.extract (Operand.tmp 16) 0, type := _, pos := _, after := _, guard := _ }) (v := ?_) rfl (by kernel_rfl) (by kernel_rfl) (by kernel_rfl) (fun _ _ _ h => h) (Or.inl ⟨by rfl, ?_⟩) hHeld ?_
      rotate_left
      · intro wq hSw
        go_simp
        rfl
      try simp only [Act.put, List.setIfInBounds_toArray, List.set_cons_zero, List.set_cons_succ]
      refine wpAnyH_take (i := 15) (oi := { dst := some 31, op := Op.extract (Operand.tmp 16) 1, type := _, pos := _, after := _, guard := _ }) (v := ?_) rfl (by kernel_rfl) (by kernel_rfl) (by kernel_rfl) (fun _ _ _ h => h) (Or.inl ⟨by rfl, ?_⟩) hHeld ?_
      rotate_left
      · intro wq hSw
        go_simp
        rfl
      try simp only [Act.put, List.setIfInBounds_toArray, List.set_cons_zero, List.set_cons_succ]
      refine wpAnyH_ready (rs := [17]) (by kernel_rfl) (by simp) ?_
      refine AllReadyH.cons (o := { dst := none, op := Op.store 58 (Operand.tmp 5) (Operand.tmp 30), type := _, pos := _, after := _, guard := _ }) rfl (fun KK hKK => ?_) AllReadyH.nil
      have hKS := Lib.hid hKK
      clear hKK
      have s7 := St.row w12 g cs
      have o7 : Nm.Own (w12.setRow g cs) g 58 cs := setRow_heap w12 g _ _ 58 (0, 0) og
      refine st24 (cs := cs) rfl (.tmp 5) (.tmp 30) rfl (by simp [Act.eval, Act.put]) (by simp [Act.eval, Act.put]) og hpc.one gz_one ?_
      have hH7 : Nm.Own (w12.setRow g cs) B 58 gz ∧ Below B w (w12.setRow g cs) := ⟨s7.own hHeld.1 (by omega), s7.below hHeld.2 (by omega)⟩
      refine hKS.out.out _ _ hH7 (fun hHeld => ?_)
      clear hKS KK s7 og hH7
      generalize World.setRow w12 g cs = W7 at *
      try simp only [Act.put, List.setIfInBounds_toArray, List.set_cons_zero, List.set_cons_succ]
      refine wpAnyH_take (i := 18) (oi := { dst := some 6, op := Op.assign (Operand.tmp 31), type := _, pos := _, after := _, guard := _ }) (v := ?_) rfl (by kernel_rfl) (by kernel_rfl) (by kernel_rfl) (fun _ _ _ h => h) (Or.inl ⟨by rfl, ?_⟩) hHeld ?_
      rotate_left
      · intro wq hSw
        go_simp
        rfl
      try simp only [Act.put, List.setIfInBounds_toArray, List.set_cons_zero, List.set_cons_succ]
      refine wpAnyH_done (by kernel_rfl) ?_ _
      go_wp2_with fail
      go_meet
      case rel => exact ⟨g, cs, k, rfl, rfl, o7, hpc, hHeld.1, hHeld.2⟩
  case rest =>
    obtain ⟨g, cs, k, rfl, rfl, og, hpc, hr, hbc⟩ := hcut
    clear r0 hb hplan hg4 hg6
    rcases hpc with ⟨hf, rfl, rfl⟩ | ⟨hf, rfl, hk⟩
    · have h2 : 16 ≤ x := hf.1
      have hX : Bx w g x y wc := ⟨og, hr, hbc⟩
      by_cases hxm : x = l.length
      · subst hxm
        have t1 : ((l.length : Int) != (l.length : Int)) = false := by simp
        have hfirst := fun wr => first_any l.length y wr hx hy
        clear og hr hbc
        by_cases hhd : nth l 0 = headT l.length y
        · have t2 := str_yes hhd
          have hmf := fun wr hw => HMF.out l.length y wr hw (by omega) hf
          have HY := Lib.hid (HY0.out y hf hhd)
          have HV := Lib.hid (show ∀ b n, Vol l b n → Gm.okMap (toL (nth l 2)) l.length y from fun b n h => by
            obtain ⟨rfl, _, rfl, _, _, hk⟩ := HV.out b n h
            exact hk)
          clear hhd
          generalize headT l.length y = HT at *
          go_wp2_with fail
          refine wp_region_held_drew (S := fun w' => Bx w g l.length y w') (by kernel_rfl) hX.drew (fun hHeld => ?_)
          clear hX
          generalize wc.drew = V0 at *
          refine wpAnyH_take (i := 0) (oi := { dst := some 32, op := Op.move (Operand.tmp 6), type := _, pos := _, after := _, guard := _ }) (v := ?_) rfl (by kernel_rfl) (by kernel_rfl) (by kernel_rfl) (fun _ _ _ h => h) (Or.inl ⟨by rfl, ?_⟩) hHeld ?_
          rotate_left
          · intro wq hSw
            go_simp
            rfl
          try simp only [Act.put, List.setIfInBounds_toArray, List.set_cons_zero, List.set_cons_succ]
          refine wpAnyH_take (i := 1) (oi := { dst := some 33, op := Op.binOp BinOp.neq 28 (Operand.tmp 32) (Operand.const (Value.int IntKind.i64 0)) 28, type := _, pos := _, after := _, guard := _ }) (v := ?_) rfl (by kernel_rfl) (by kernel_rfl) (by kernel_rfl) (fun _ _ _ h => h) (Or.inl ⟨by rfl, ?_⟩) hHeld ?_
          rotate_left
          · intro wq hSw
            go_simp
            rfl
          try simp only [Act.put, List.setIfInBounds_toArray, List.set_cons_zero, List.set_cons_succ]
          refine wpAnyH_take (i := 2) (oi := { dst := some 34, op := Op.move (Operand.tmp 33), type := _, pos := _, after := _, guard := _ }) (v := ?_) rfl (by kernel_rfl) (by kernel_rfl) (by kernel_rfl) (fun _ _ _ h => h) (Or.inl ⟨by rfl, ?_⟩) hHeld ?_
          rotate_left
          · intro wq hSw
            go_simp
            rfl
          try simp only [Act.put, List.setIfInBounds_toArray, List.set_cons_zero, List.set_cons_succ]
          refine wpAnyH_take (i := 3) (oi := { dst := some 35, op := Op.fieldAddr 58 (Operand.tmp 5) 0, type := _, pos := _, after := _, guard := _ }) (v := ?_) rfl (by kernel_rfl) (by kernel_rfl) (by kernel_rfl) (fun _ _ _ h => h) (Or.inl ⟨by rfl, ?_⟩) hHeld ?_
          rotate_left
          · intro wq hSw
            go_simp
            rfl
          try simp only [Act.put, List.setIfInBounds_toArray, List.set_cons_zero, List.set_cons_succ]
          refine wpAnyH_take (i := 4) (oi := { dst := some 36, op := Op.load 3 (Operand.tmp 35), type := _, pos := _, after := _, guard := _ }) (v := ?_) rfl (by kernel_rfl) (by kernel_rfl) (by kernel_rfl) (fun _ _ _ h => h) (Or.inl ⟨by rfl, ?_⟩) hHeld ?_
          rotate_left
          · intro wq hSw
            have c0 := hc0 wq hSw.b
            have d0 := hSw.d0
            go_simp
            rfl
          try simp only [Act.put, List.setIfInBounds_toArray, List.set_cons_zero, List.set_cons_succ]
          refine wpAnyH_take (i := 5) (oi := { dst := some 37, op := Op.move (Operand.tmp 0), type := _, pos := _, after := _, guard := _ }) (v := ?_) rfl (by kernel_rfl) (by kernel_rfl) (by kernel_rfl) (fun _ _ _ h => h) (Or.inl ⟨by rfl, ?_⟩) hHeld ?_
          rotate_left
          · intro wq hSw
            go_simp
            rfl
          try simp only [Act.put, List.setIfInBounds_toArray, List.set_cons_zero, List.set_cons_succ]
          refine wpAnyH_take (i := 6) (oi := { dst := some 38, op := Op.call { callee := Callee.builtin Builtin.len, args := #[Operand.tmp 37], argTypes := #[22] }, type := _, pos := _, after := _, guard := _ }) (v := ?_) rfl (by kernel_rfl) (by kernel_rfl) (by kernel_rfl) (fun _ _ _ h => h) (Or.inl ⟨by rfl, ?_⟩) hHeld ?_
          rotate_left
          · intro wq hSw
            go_simp
            rfl
          try simp only [Act.put, List.setIfInBounds_toArray, List.set_cons_zero, List.set_cons_succ]
          refine wpAnyH_take (i := 7) (oi := { dst := some 39, op := Op.binOp BinOp.neq 3 (Operand.tmp 36) (Operand.tmp 38) 3, type := _, pos := _, after := _, guard := _ }) (v := ?_) rfl (by kernel_rfl) (by kernel_rfl) (by kernel_rfl) (fun _ _ _ h => h) (Or.inl ⟨by rfl, ?_⟩) hHeld ?_
          rotate_left
          · intro wq hSw
            go_simp
            rfl
          try simp only [Act.put, List.setIfInBounds_toArray, List.set_cons_zero, List.set_cons_succ]
          refine wpAnyH_take (i := 8) (oi := { dst := some 40, op := Op.pick (Operand.tmp 34) (Operand.const (Value.bool true)) (Operand.tmp 39), type := _, pos := _, after := _, guard := _ }) (v := ?_) rfl (by kernel_rfl) (by kernel_rfl) (by kernel_rfl) (fun _ _ _ h => h) (Or.inl ⟨by rfl, ?_⟩) hHeld ?_
          rotate_left
          · intro wq hSw
            go_simp
            rfl
          try simp only [Act.put, List.setIfInBounds_toArray, List.set_cons_zero, List.set_cons_succ]
          refine wpAnyH_take (i := 9) (oi := { dst := some 41, op := Op.move (Operand.tmp 40), type := _, pos := _, after := _, guard := _ }) (v := ?_) rfl (by kernel_rfl) (by kernel_rfl) (by kernel_rfl) (fun _ _ _ h => h) (Or.inl ⟨by rfl, ?_⟩) hHeld ?_
          rotate_left
          · intro wq hSw
            go_simp
            rfl
          try simp only [Act.put, List.setIfInBounds_toArray, List.set_cons_zero, List.set_cons_succ]
          refine wpAnyH_take (i := 10) (oi := { dst := some 42, op := Op.move (Operand.tmp 0), type := _, pos := _, after := _, guard := _ }) (v := ?_) rfl (by kernel_rfl) (by kernel_rfl) (by kernel_rfl) (fun _ _ _ h => h) (Or.inl ⟨by rfl, ?_⟩) hHeld ?_
          rotate_left
          · intro wq hSw
            go_simp
            rfl
          try simp only [Act.put, List.setIfInBounds_toArray, List.set_cons_zero, List.set_cons_succ]
          refine wpAnyH_take (i := 11) (oi := { dst := some 43, op := Op.indexAddr 22 (Operand.tmp 42) (Operand.const (Value.int IntKind.i64 0)), type := _, pos := _, after := _, guard := _ }) (v := ?_) rfl (by kernel_rfl) (by kernel_rfl) (by kernel_rfl) (fun _ _ _ h => h) (Or.inl ⟨by rfl, ?_⟩) hHeld ?_
          rotate_left
          · intro wq hSw
            go_simp
            rfl
          try simp only [Act.put, List.setIfInBounds_toArray, List.set_cons_zero, List.set_cons_succ]
          refine wpAnyH_take (i := 12) (oi := { dst := some 44, op := Op.load 9 (Operand.tmp 43), type := _, pos := _, after := _, guard := _ }) (v := ?_) rfl (by kernel_rfl) (by kernel_rfl) (by kernel_rfl) (fun _ _ _ h => h) (Or.inl ⟨by rfl, ?_⟩) hHeld ?_
          rotate_left
          · intro wq hSw
            have c0 := hc0 wq hSw.b
            have d0 := hSw.d0
            go_simp
            rfl
          try simp only [Act.put, List.setIfInBounds_toArray, List.set_cons_zero, List.set_cons_succ]
          refine wpAnyH_ready (rs := [13]) (by kernel_rfl) (by simp) ?_
          refine AllReadyH.cons (o := { dst := some 45, op := Op.load 58 (Operand.tmp 5), type := _, pos := _, after := _, guard := _ }) rfl (fun KK hKK => ?_) AllReadyH.nil
          have hKS := Lib.hid hKK
          clear hKK
          refine ld24g (by kernel_rfl) rfl rfl hHeld.o (gc_one _ _) ?_
          refine hKS.out.out _ _ hHeld (fun hHeld => ?_)
          clear hKS KK
          try simp only [Act.put, List.setIfInBounds_toArray, List.set_cons_zero, List.set_cons_succ]
          refine wpAnyH_ready (rs := [14]) (by kernel_rfl) (by simp) ?_
          refine AllReadyH.cons (o := { dst := some 46, op := Op.call { callee := Callee.value (Operand.func 37), args := #[Operand.tmp 45], argTypes := #[58] }, type := _, pos := _, after := _, guard := _ }) rfl (fun KK hKK => ?_) AllReadyH.nil
          have hKS := Lib.hid hKK
          clear hKK
          go_simp
          refine (hfirst _).mono ?_
          rintro e w14 ⟨rfl, hx⟩
          go_wp2_with fail
          refine hKS.out.out _ _ (hHeld.below hx) (fun hHeld => ?_)
          clear hKS KK hx
          try simp only [Act.put, List.setIfInBounds_toArray, List.set_cons_zero, List.set_cons_succ]
          refine wpAnyH_take (i := 15) (oi := { dst := some 47, op := Op.binOp BinOp.neq 9 (Operand.tmp 44) (Operand.tmp 46) 9, type := _, pos := _, after := _, guard := _ }) (v := ?_) rfl (by kernel_rfl) (by kernel_rfl) (by kernel_rfl) (fun _ _ _ h => h) (Or.inl ⟨by rfl, ?_⟩) hHeld ?_
          rotate_left
          · intro wq hSw
            go_simp
            rfl
          try simp only [Act.put, List.setIfInBounds_toArray, List.set_cons_zero, List.set_cons_succ]
          refine wpAnyH_take (i := 16) (oi := { dst := some 48, op := Op.pick (Operand.tmp 41) (Operand.const (Value.bool true)) (Operand.tmp 47), type := _, pos := _, after := _, guard := _ }) (v := ?_) rfl (by kernel_rfl) (by kernel_rfl) (by kernel_rfl) (fun _ _ _ h => h) (Or.inl ⟨by rfl, ?_⟩) hHeld ?_
          rotate_left
          · intro wq hSw
            go_simp
            rfl
          try simp only [Act.put, List.setIfInBounds_toArray, List.set_cons_zero, List.set_cons_succ]
          refine wpAnyH_done (by kernel_rfl) ?_ _
          go_wp2_with (refine ld24 rfl rfl rfl hHeld.o (gc_one _ _) ?_)
          refine (hmf _ hHeld.b).mono ?_
          rintro e w5 ⟨⟨r, rfl, hr⟩, hx⟩
          replace hHeld := hHeld.below hx
          clear hx
          have HR := Lib.hid hr
          clear hr
          cases r with
          | false =>
            go_wp2_with (refine sto24 (cs := gz) rfl rfl rfl rfl hHeld.r gz_one gz_one ?_)
            intro w7 r7 s7
            go_wp2_with fail
            exact res24 rfl rfl rfl r7 rfl rfl ⟨.inr ⟨fun b n hv => absurd (HR.out.2 (HV.out b n hv)) (by simp), rfl⟩, s7.below hHeld.b (Nat.le_refl _)⟩
          | true =>
            go_wp2_with (first | (refine ld24 rfl rfl rfl hHeld.o (gc_one _ _) ?_) | (refine sto24 (cs := gc l.length y) rfl rfl rfl rfl hHeld.r (gc_one _ _) gz_one ?_))
            intro w7 r7 s7
            go_wp2_with fail
            exact res24 rfl rfl rfl r7 rfl rfl ⟨.inl ⟨_, _, HY.out (HR.out.1 (by trivial)), rfl⟩, s7.below hHeld.b (Nat.le_refl _)⟩
        · have t2 := str_no hhd
          have HN := Lib.hid (show ∀ b n, ¬ Vol l b n from fun b n h => by
            obtain ⟨rfl, _, rfl, _, hk, _⟩ := HV.out b n h
            exact hhd hk)
          clear hhd
          generalize headT l.length y = HT at *
          go_wp2_with fail
          refine wp_region_held_drew (S := fun w' => Bx w g l.length y w') (by kernel_rfl) hX.drew (fun hHeld => ?_)
          clear hX
          generalize wc.drew = V0 at *
          refine wpAnyH_take (i := 0) (oi := { dst := some 32, op := Op.move (Operand.tmp 6), type := _, pos := _, after := _, guard := _ }) (v := ?_) rfl (by kernel_rfl) (by kernel_rfl) (by kernel_rfl) (fun _ _ _ h => h) (Or.inl ⟨by rfl, ?_⟩) hHeld ?_
          rotate_left
          · intro wq hSw
            go_simp
            rfl
          try simp only [Act.put, List.setIfInBounds_toArray, List.set_cons_zero, List.set_cons_succ]
          refine wpAnyH_take (i := 1) (oi := { dst := some 33, op := Op.binOp BinOp.neq 28 (Operand.tmp 32) (Operand.const (Value.int IntKind.i64 0)) 28, type := _, pos := _, after := _, guard := _ }) (v := ?_) rfl (by kernel_rfl) (by kernel_rfl) (by kernel_rfl) (fun _ _ _ h => h) (Or.inl ⟨by rfl, ?_⟩) hHeld ?_
          rotate_left
          · intro wq hSw
            go_simp
            rfl
          try simp only [Act.put, List.setIfInBounds_toArray, List.set_cons_zero, List.set_cons_succ]
          refine wpAnyH_take (i := 2) (oi := { dst := some 34, op := Op.move (Operand.tmp 33), type := _, pos := _, after := _, guard := _ }) (v := ?_) rfl (by kernel_rfl) (by kernel_rfl) (by kernel_rfl) (fun _ _ _ h => h) (Or.inl ⟨by rfl, ?_⟩) hHeld ?_
          rotate_left
          · intro wq hSw
            go_simp
            rfl
          try simp only [Act.put, List.setIfInBounds_toArray, List.set_cons_zero, List.set_cons_succ]
          refine wpAnyH_take (i := 3) (oi := { dst := some 35, op := Op.fieldAddr 58 (Operand.tmp 5) 0, type := _, pos := _, after := _, guard := _ }) (v := ?_) rfl (by kernel_rfl) (by kernel_rfl) (by kernel_rfl) (fun _ _ _ h => h) (Or.inl ⟨by rfl, ?_⟩) hHeld ?_
          rotate_left
          · intro wq hSw
            go_simp
            rfl
          try simp only [Act.put, List.setIfInBounds_toArray, List.set_cons_zero, List.set_cons_succ]
          refine wpAnyH_take (i := 4) (oi := { dst := some 36, op := Op.load 3 (Operand.tmp 35), type := _, pos := _, after := _, guard := _ }) (v := ?_) rfl (by kernel_rfl) (by kernel_rfl) (by kernel_rfl) (fun _ _ _ h => h) (Or.inl ⟨by rfl, ?_⟩) hHeld ?_
          rotate_left
          · intro wq hSw
            have c0 := hc0 wq hSw.b
            have d0 := hSw.d0
            go_simp
            rfl
          try simp only [Act.put, List.setIfInBounds_toArray, List.set_cons_zero, List.set_cons_succ]
          refine wpAnyH_take (i := 5) (oi := { dst := some 37, op := Op.move (Operand.tmp 0), type := _, pos := _, after := _, guard := _ }) (v := ?_) rfl (by kernel_rfl) (by kernel_rfl) (by kernel_rfl) (fun _ _ _ h => h) (Or.inl ⟨by rfl, ?_⟩) hHeld ?_
          rotate_left
          · intro wq hSw
            go_simp
            rfl
          try simp only [Act.put, List.setIfInBounds_toArray, List.set_cons_zero, List.set_cons_succ]
          refine wpAnyH_take (i := 6) (oi := { dst := some 38, op := Op.call { callee := Callee.builtin Builtin.len, args := #[Operand.tmp 37], argTypes := #[22] }, type := _, pos := _, after := _, guard := _ }) (v := ?_) rfl (by kernel_rfl) (by kernel_rfl) (by kernel_rfl) (fun _ _ _ h => h) (Or.inl ⟨by rfl, ?_⟩) hHeld ?_
          rotate_left
          · intro wq hSw
            go_simp
            rfl
          try simp only [Act.put, List.setIfInBounds_toArray, List.set_cons_zero, List.set_cons_succ]
          refine wpAnyH_take (i := 7) (oi := { dst := some 39, op := Op.binOp BinOp.neq 3 (Operand.tmp 36) (Operand.tmp 38) 3, type := _, pos := _, after := _, guard := _ }) (v := ?_) rfl (by kernel_rfl) (by kernel_rfl) (by kernel_rfl) (fun _ _ _ h => h) (Or.inl ⟨by rfl, ?_⟩) hHeld ?_
          rotate_left
          · intro wq hSw
            go_simp
            rfl
          try simp only [Act.put, List.setIfInBounds_toArray, List.set_cons_zero, List.set_cons_succ]
          refine wpAnyH_take (i := 8) (oi := { dst := some 40, op := Op.pick (Operand.tmp 34) (Operand.const (Value.bool true)) (Operand.tmp 39), type := _, pos := _, after := _, guard := _ }) (v := ?_) rfl (by kernel_rfl) (by kernel_rfl) (by kernel_rfl) (fun _ _ _ h => h) (Or.inl ⟨by rfl, ?_⟩) hHeld ?_
          rotate_left
          · intro wq hSw
            go_simp
            rfl
          try simp only [Act.put, List.setIfInBounds_toArray, List.set_cons_zero, List.set_cons_succ]
          refine wpAnyH_take (i := 9) (oi := { dst := some 41, op := Op.move (Operand.tmp 40), type := _, pos := _, after := _, guard := _ }) (v := ?_) rfl (by kernel_rfl) (by kernel_rfl) (by kernel_rfl) (fun _ _ _ h => h) (Or.inl ⟨by rfl, ?_⟩) hHeld ?_
          rotate_left
          · intro wq hSw
            go_simp
            rfl
          try simp only [Act.put, List.setIfInBounds_toArray, List.set_cons_zero, List.set_cons_succ]
          refine wpAnyH_take (i := 10) (oi := { dst := some 42, op := Op.move (Operand.tmp 0), type := _, pos := _, after := _, guard := _ }) (v := ?_) rfl (by kernel_rfl) (by kernel_rfl) (by kernel_rfl) (fun _ _ _ h => h) (Or.inl ⟨by rfl, ?_⟩) hHeld ?_
          rotate_left
          · intro wq hSw
            go_simp
            rfl
          try simp only [Act.put, List.setIfInBounds_toArray, List.set_cons_zero, List.set_cons_succ]
          refine wpAnyH_take (i := 11) (oi := { dst := some 43, op := Op.indexAddr 22 (Operand.tmp 42) (Operand.const (Value.int IntKind.i64 0)), type := _, pos := _, after := _, guard := _ }) (v := ?_) rfl (by kernel_rfl) (by kernel_rfl) (by kernel_rfl) (fun _ _ _ h => h) (Or.inl ⟨by rfl, ?_⟩) hHeld ?_
          rotate_left
          · intro wq hSw
            go_simp
            rfl
          try simp only [Act.put, List.setIfInBounds_toArray, List.set_cons_zero, List.set_cons_succ]
          refine wpAnyH_take (i := 12) (oi := { dst := some 44, op := Op.load 9 (Operand.tmp 43), type := _, pos := _, after := _, guard := _ }) (v := ?_) rfl (by kernel_rfl) (by kernel_rfl) (by kernel_rfl) (fun _ _ _ h => h) (Or.inl ⟨by rfl, ?_⟩) hHeld ?_
          rotate_left
          · intro wq hSw
            have c0 := hc0 wq hSw.b
            have d0 := hSw.d0
            go_simp
            rfl
          try simp only [Act.put, List.setIfInBounds_toArray, List.set_cons_zero, List.set_cons_succ]
          refine wpAnyH_ready (rs := [13]) (by kernel_rfl) (by simp) ?_
          refine AllReadyH.cons (o := { dst := some 45, op := Op.load 58 (Operand.tmp 5), type := _, pos := _, after := _, guard := _ }) rfl (fun KK hKK => ?_) AllReadyH.nil
          have hKS := Lib.hid hKK
          clear hKK
          refine ld24g (by kernel_rfl) rfl rfl hHeld.o (gc_one _ _) ?_
          refine hKS.out.out _ _ hHeld (fun hHeld => ?_)
          clear hKS KK
          try simp only [Act.put, List.setIfInBounds_toArray, List.set_cons_zero, List.set_cons_succ]
          refine wpAnyH_ready (rs := [14]) (by kernel_rfl) (by simp) ?_
          refine AllReadyH.cons (o := { dst := some 46, op := Op.call { callee := Callee.value (Operand.func 37), args := #[Operand.tmp 45], argTypes := #[58] }, type := _, pos := _, after := _, guard := _ }) rfl (fun KK hKK => ?_) AllReadyH.nil
          have hKS := Lib.hid hKK
          clear hKK
          go_simp
          refine (hfirst _).mono ?_
          rintro e w14 ⟨rfl, hx⟩
          go_wp2_with fail
          refine hKS.out.out _ _ (hHeld.below hx) (fun hHeld => ?_)
          clear hKS KK hx
          try simp only [Act.put, List.setIfInBounds_toArray, List.set_cons_zero, List.set_cons_succ]
          refine wpAnyH_take (i := 15) (oi := { dst := some 47, op := Op.binOp BinOp.neq 9 (Operand.tmp 44) (Operand.tmp 46) 9, type := _, pos := _, after := _, guard := _ }) (v := ?_) rfl (by kernel_rfl) (by kernel_rfl) (by kernel_rfl) (fun _ _ _ h => h) (Or.inl ⟨by rfl, ?_⟩) hHeld ?_
          rotate_left
          · intro wq hSw
            go_simp
            rfl
          try simp only [Act.put, List.setIfInBounds_toArray, List.set_cons_zero, List.set_cons_succ]
          refine wpAnyH_take (i := 16) (oi := { dst := some 48, op := Op.pick (Operand.tmp 41) (Operand.const (Value.bool true)) (Operand.tmp 47), type := _, pos := _, after := _, guard := _ }) (v := ?_) rfl (by kernel_rfl) (by kernel_rfl) (by kernel_rfl) (fun _ _ _ h => h) (Or.inl ⟨by rfl, ?_⟩) hHeld ?_
          rotate_left
          · intro wq hSw
            go_simp
            rfl
          try simp only [Act.put, List.setIfInBounds_toArray, List.set_cons_zero, List.set_cons_succ]
          refine wpAnyH_done (by kernel_rfl) ?_ _
          go_wp2_with (refine sto24 (cs := gz) rfl rfl rfl rfl hHeld.r gz_one gz_one ?_)
          intro w7 r7 s7
          go_wp2_with fail
          exact res24 rfl rfl rfl r7 rfl rfl ⟨.inr ⟨HN.out, rfl⟩, s7.below hHeld.b (Nat.le_refl _)⟩
      · have t1 : ((x : Int) != (l.length : Int)) = true := by rw [bne_iff_ne]; omega
        have d0 := hX.d0
        have HN := Lib.hid (show ∀ b n, ¬ Vol l b n from fun b n h => by have := HV.out b n h; omega)
        clear hxm og hr hbc
        go_wp2_with fail
        go_quiet (fail)
        go_wp2_with (refine sto24 (cs := gz) rfl rfl rfl rfl (hX.dr ⟨_, rfl⟩).r gz_one gz_one ?_)
        intro w7 r7 s7
        go_wp2_with fail
        exact res24 rfl rfl rfl r7 rfl rfl ⟨.inr ⟨HN.out, rfl⟩, s7.below (hX.dr ⟨_, rfl⟩).b (Nat.le_refl _)⟩
    · have HN := Lib.hid (show ∀ b n, ¬ Vol l b n from fun b n h => by
        obtain ⟨_, rfl, rfl, hk, _⟩ := HV.out b n h
        exact hf hk)
      have t1 : (k != 0) = true := by rw [bne_iff_ne]; exact hk
      clear hf hk og
      go_wp2_with fail
      go_quiet (fail)
      go_wp2_with (refine sto24 (cs := gz) rfl rfl rfl rfl (odr hr ⟨_, rfl⟩) gz_one gz_one ?_)
      intro w7 r7 s7
      go_wp2_with fail
      exact res24 rfl rfl rfl r7 rfl rfl ⟨.inr ⟨HN.out, rfl⟩, s7.below (below_dr hbc ⟨_, rfl⟩) (Nat.le_refl _)⟩
end Dw
end Go.Proofs.YtambgmjiafcokaaDoor
