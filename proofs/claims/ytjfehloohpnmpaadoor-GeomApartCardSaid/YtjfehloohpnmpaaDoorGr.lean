/-
  THE WALK of the law of plans.
-/
import Derived.Test.YtjfehloohpnmpaaDoorGq
namespace Go.Proofs.YtjfehloohpnmpaaDoor
set_option linter.unusedVariables false
set_option maxRecDepth 100000
set_option linter.unusedSimpArgs false
open Go.RowKit
namespace Dw
open _root_.Go.Proofs.YtjfehloohpnmpaaDoor.Nm
theorem yl24 {ops : Array Oper} {S : World → Prop} {o : Oper} {a : Act} (hw : Region.wanted o (yielded ops a.tmps) = true) (x : Operand) (ho : o.op = .load 24 x) (g : Nat)
    (hx : a.eval x = .pointer (some ⟨g, 0, none⟩)) {cs : Array Value} (hS : ∀ w, S w → Nm.Own w g 24 cs) (h1 : One cs) : YieldsIf Tryd.prog ops S o (.agg cs) a :=
  .inl ⟨hw, fun w hw' => by
    unfold execOp
    simp only [ho, hx, Instr.loadAt, Instr.sureAddr, Sem.run_bind, Sem.run_pure, Result.andThen_ok, run_loadVar_row w g 24 24 cs (0, 0) _ (hS w hw') Tryd.underlying24 rfl (by rw [h1.1]; exact info24)]⟩
/-- two plans' boxes and a volume -/
structure B2 (w : World) (g h : Nat) (x y : Nat) (A : Option Addr) (c : Nat) (l : List ByteArray) (w' : World) : Prop where
  o : Nm.Own w' g 24 (gc x y)
  p : Nm.Own w' h 24 (gc x y)
  z : Tz w' A x c l
  b : Below w.heap.size w w'
theorem B2.below {w : World} {g h x y c : Nat} {A : Option Addr} {l : List ByteArray} {w1 w2 : World} (k : B2 w g h x y A c l w1) (hx : Below w1.heap.size w1 w2) : B2 w g h x y A c l w2 :=
  ⟨k.o.below hx, k.p.below hx, k.z.below hx, k.b.trans (hx.mono k.b.size)⟩
theorem B2.drew {w : World} {g h x y c : Nat} {A : Option Addr} {l : List ByteArray} {w1 : World} (k : B2 w g h x y A c l w1) : B2 w g h x y A c l w1.drew := ⟨k.o, k.p, k.z.dr ⟨1, rfl⟩, k.b.drew⟩
theorem B2.d5 {w : World} {g h x y c : Nat} {A : Option Addr} {l : List ByteArray} {w1 : World} (k : B2 w g h x y A c l w1) : w1.cell? ⟨g, 5, none⟩ = some (.int .i64 ((Gm.dat y : Nat) : Int)) := k.o.cell 5
theorem no_vol_nil : ∀ b n, ¬ Vol [] b n := fun b n h => by have := h.lt; have := h.len; simp at this; omega
set_option maxHeartbeats 4000000 in
theorem plans_any (b n : Int) (w : World) (hbi : -9223372036854775808 ≤ b ∧ b ≤ 9223372036854775807) (hni : -9223372036854775808 ≤ n ∧ n ≤ 9223372036854775807) :
    Calls Tryd.prog 3 #[.int .i64 b, .int .i64 n] w fun e w' => e = .returned (.bool true) ∧ Below w.heap.size w w' := by
  by_cases hE : Gm.planE b n = 0
  · obtain ⟨x, y, rfl, rfl, hf⟩ := Gm.planE_ok hE
    have hv := fmt_vol hf
    have hrm := fmt_room hf
    have hpl : ∀ w, Calls Tryd.prog 8 #[.int .i64 (x : Int), .int .i64 (y : Int)] w fun e w' => e = .returned (.tuple #[.agg (gc x y), .int .i64 0]) ∧ Below w.heap.size w w' := fun w => by
      refine (plan_any x y w).mono ?_
      rintro e w' ⟨h, hb⟩
      refine ⟨?_, hb⟩
      rcases h with ⟨x', y', hx, hy, _, rfl⟩ | ⟨hE', _⟩
      · obtain rfl : x = x' := by omega
        obtain rfl : y = y' := by omega
        rfl
      · exact absurd hE hE'
    have hrp : ∀ w, Calls Tryd.prog 9 #[.int .i64 (x : Int), .int .i64 (y : Int)] w fun e w' => e = .returned (.tuple #[.agg (gc x y), .int .i64 0]) ∧ Below w.heap.size w w' := fun w => by
      refine (rplan_any x y w).mono ?_
      rintro e w' ⟨h, hb⟩
      refine ⟨?_, hb⟩
      rcases h with ⟨x', y', hx, hy, _, rfl⟩ | ⟨hE', _⟩
      · obtain rfl : x = x' := by omega
        obtain rfl : y = y' := by omega
        rfl
      · exact absurd hE hE'
    have hfm : ∀ w, Calls Tryd.prog 10 #[.int .i64 (x : Int), .int .i64 (y : Int)] w fun e w' => (∃ A c, e = .returned (.tuple #[.slice A x c, .int .i64 0]) ∧ RS w' w.heap.size A x c (fmtL x y)) ∧ Below w.heap.size w w' := fun w => by
      refine (format_any x y w).mono ?_
      rintro e w' ⟨h, hb⟩
      refine ⟨?_, hb⟩
      rcases h with ⟨K, hK, hE', _⟩ | ⟨x', y', A', c', hx, hy, _, rfl, hr⟩
      · rw [hE] at hE'
        exact absurd hE'.symm hK
      · obtain rfl : x = x' := by omega
        obtain rfl : y = y' := by omega
        exact ⟨A', c', rfl, hr⟩
    have hrf : ∀ w, Calls Tryd.prog 11 #[.int .i64 (x : Int), .int .i64 (y : Int)] w fun e w' => (∃ A c, e = .returned (.tuple #[.slice A x c, .int .i64 0]) ∧ RS w' w.heap.size A x c (fmtL x y)) ∧ Below w.heap.size w w' := fun w => by
      refine (rformat_any x y w).mono ?_
      rintro e w' ⟨h, hb⟩
      refine ⟨?_, hb⟩
      rcases h with ⟨K, hK, hE', _⟩ | ⟨x', y', A', c', hx, hy, _, rfl, hr⟩
      · rw [hE] at hE'
        exact absurd hE'.symm hK
      · obtain rfl : x = x' := by omega
        obtain rfl : y = y' := by omega
        exact ⟨A', c', rfl, hr⟩
    have hof : ∀ A c w, Tz w A x c (fmtL x y) → Calls Tryd.prog 13 #[.slice A x c] w fun e w' => e = .returned (.tuple #[.agg (gc x y), .int .i64 0]) ∧ Below w.heap.size w w' := fun A c w hl => by
      refine (of_any A x c _ w hl hv.blk.lit).mono ?_
      rintro e w' ⟨h, hb⟩
      refine ⟨?_, hb⟩
      rcases h with ⟨b, n, hv', rfl⟩ | ⟨hn, _⟩
      · obtain ⟨rfl, rfl⟩ := hv.uniq hv'
        rfl
      · exact absurd hv (hn _ _)
    have hro : ∀ A c w, Tz w A x c (fmtL x y) → Calls Tryd.prog 14 #[.slice A x c] w fun e w' => e = .returned (.int .i64 ((x : Int) - ((Gm.dat y : Nat) : Int))) ∧ Below w.heap.size w w' := fun A c w hl => by
      refine (room_any A x c _ w hl hv.blk.lit).mono ?_
      rintro e w' ⟨h, hb⟩
      refine ⟨?_, hb⟩
      rcases h with ⟨b, n, hv', rfl⟩ | ⟨hn, _⟩
      · obtain ⟨rfl, rfl⟩ := hv.uniq hv'
        rw [hrm, Int.ofNat_sub (Nat.le_of_lt hf.2.2.2.2)]
      · exact absurd hv (hn _ _)
    have hsame : ∀ A c A' c' w, Tz w A x c (fmtL x y) → Tz w A' x c' (fmtL x y) → Calls Tryd.prog 12 #[.slice A x c, .slice A' x c'] w fun e w' => e = .returned (.bool true) ∧ Dr w w' := fun A c A' c' w hl hl' => by
      have := same_any A A' x c x c' _ _ w hl.t hl'.t (by have := hl.m; omega) (by have := hl.m; omega)
      rw [decide_eq_true rfl] at this
      exact this
    have hx2 := hf.2.1
    have hD := hf.2.2.2.2
    clear hv hrm hE
    generalize fmtL x y = L at *
    go_enter Tryd.func3, Tryd.ntmps3
    go_wp2_with fail
    refine (alive_any _).mono ?_
    rintro e w1 ⟨rfl, hb1⟩
    go_wp2_with fail
    refine (hpl _).mono ?_
    rintro e w2 ⟨rfl, hx2'⟩
    have hb2 := (hb1.trans (hx2'.mono hb1.size))
    have hb2' := hb2.trans ((grow w2 (Obj.cells gz 24)).mono hb2.size)
    have og := Nm.Own.new w2 24 gz
    go_wp2_with (refine sto24 (cs := gc x y) rfl rfl rfl rfl og (gc_one _ _) gz_one ?_)
    intro w5 o5 s5
    have hb5 := s5.below hb2' hb2.size
    clear hx2' hb2 hb2' og s5 hb1
    generalize w2.heap.size = g at *
    go_wp2_with fail
    refine (hrp _).mono ?_
    rintro e w6 ⟨rfl, hx6⟩
    have hb6 := hb5.trans (hx6.mono hb5.size)
    have hb6' := hb6.trans ((grow w6 (Obj.cells gz 24)).mono hb6.size)
    have o6 := (o5.below hx6).below (grow w6 (Obj.cells gz 24))
    have hgh : g < w6.heap.size := (o5.below hx6).lt
    have og := Nm.Own.new w6 24 gz
    go_wp2_with (refine sto24 (cs := gc x y) rfl rfl rfl rfl og (gc_one _ _) gz_one ?_)
    intro w7 p7 s7
    have hb7 := s7.below hb6' hb6.size
    have o7 := s7.own o6 (by omega)
    clear hx6 hb6 hb6' og s7 o6 hb5 o5
    generalize w6.heap.size = h at *
    go_wp2_with fail
    refine (hfm _).mono ?_
    rintro e w8 ⟨⟨A, c, rfl, hr⟩, hx8⟩
    have o8 := o7.below hx8
    have p8 := p7.below hx8
    have hb8 := hb7.trans (hx8.mono hb7.size)
    have z8 := Tz.of hr (by omega)
    clear o7 p7 hb7 hr hx8
    go_wp2_with fail
    refine (hrf _).mono ?_
    rintro e w9 ⟨⟨A', c', rfl, hr⟩, hx9⟩
    have o9 := o8.below hx9
    have p9 := p8.below hx9
    have hb9 := hb8.trans (hx9.mono hb8.size)
    have z9 := z8.below hx9
    have y9 := Tz.of hr (by omega)
    clear o8 p8 hb8 hr hx9 z8
    go_wp2_with (first | (refine ld24 rfl rfl rfl o9 (gc_one _ _) ?_) | (refine ld24 rfl rfl rfl p9 (gc_one _ _) ?_) | (refine ne24 (by rfl) rfl rfl rfl (gc_eq _ _) ?_))
    refine (hsame _ _ _ _ _ z9 y9).mono ?_
    rintro e w10 ⟨rfl, hd⟩
    have o10 := odr o9 hd
    have z10 := z9.dr hd
    have hb10 := below_dr hb9 hd
    clear o9 p9 hb9 z9 y9 hd
    go_wp2_with fail
    refine (hof _ _ _ z10).mono ?_
    rintro e w11 ⟨rfl, hx11⟩
    have hb11 := hb10.trans (hx11.mono hb10.size)
    have hg11 := grow w11 (Obj.cells gz 24)
    have o11 := (o10.below hx11).below hg11
    have hgh : g < w11.heap.size := (o10.below hx11).lt
    have z11 := (z10.below hx11).below hg11
    have hb11' := hb11.trans (hg11.mono hb11.size)
    have og := Nm.Own.new w11 24 gz
    go_wp2_with (refine sto24 (cs := gc x y) rfl rfl rfl rfl og (gc_one _ _) gz_one ?_)
    intro w12 p12 s12
    have hK : B2 w g w11.heap.size x y A c L w12 := ⟨s12.own o11 (by omega), p12, (z10.below hx11).below (s12.below hg11 (Nat.le_refl _)), s12.below hb11' hb11.size⟩
    clear hx11 hb11 hg11 o11 z11 hb11' og s12 p12 o10 z10 hb10
    go_wp2_with fail
    have hro := hro A c
    have e1 : IntKind.i64.wrap ((x : Int) - ((Gm.dat y : Nat) : Int)) = (x : Int) - ((Gm.dat y : Nat) : Int) := IntWalk.i64_in _ (by omega)
    generalize w11.heap.size = h11 at *
    refine wp_region_held_drew (S := fun w' => B2 w g h11 x y A c L w') (by kernel_rfl) hK.drew (fun hHeld => ?_)
    clear hK hpl hrp hfm hrf hof hsame
    generalize w12.drew = V0 at *
    refine wpAnyH_take (i := 0) (oi := { dst := some 65, op := Op.move (Operand.tmp 6), type := _, pos := _, after := _, guard := _ }) (v := ?_) rfl (by kernel_rfl) (by kernel_rfl) (by kernel_rfl) (fun _ _ _ h => h) (Or.inl ⟨by rfl, ?_⟩) hHeld ?_
    rotate_left
    · intro wq hSw
      go_simp
      rfl
    try simp only [Act.put, List.setIfInBounds_toArray, List.set_cons_zero, List.set_cons_succ]
    refine wpAnyH_take (i := 1) (oi := { dst := some 66, op := Op.binOp BinOp.neq 25 (Operand.tmp 65) (Operand.const (Value.int IntKind.i64 0)) 25, type := _, pos := _, after := _, guard := _ }) (v := ?_) rfl (by kernel_rfl) (by kernel_rfl) (by kernel_rfl) (fun _ _ _ h => h) (Or.inl ⟨by rfl, ?_⟩) hHeld ?_
    rotate_left
    · intro wq hSw
      go_simp
      rfl
    try simp only [Act.put, List.setIfInBounds_toArray, List.set_cons_zero, List.set_cons_succ]
    refine wpAnyH_take (i := 2) (oi := { dst := some 67, op := Op.move (Operand.tmp 66), type := _, pos := _, after := _, guard := _ }) (v := ?_) rfl (by kernel_rfl) (by kernel_rfl) (by kernel_rfl) (fun _ _ _ h => h) (Or.inl ⟨by rfl, ?_⟩) hHeld ?_
    rotate_left
    · intro wq hSw
      go_simp
      rfl
    try simp only [Act.put, List.setIfInBounds_toArray, List.set_cons_zero, List.set_cons_succ]
    refine wpAnyH_take (i := 3) (oi := { dst := some 68, op := Op.move (Operand.tmp 14), type := _, pos := _, after := _, guard := _ }) (v := undef) rfl (by kernel_rfl) (by kernel_rfl) (by kernel_rfl) (fun _ _ _ h => h) (Or.inr ⟨by kernel_rfl, rfl⟩) hHeld ?_
    try simp only [Act.put, List.setIfInBounds_toArray, List.set_cons_zero, List.set_cons_succ]
    refine wpAnyH_take (i := 4) (oi := { dst := some 69, op := Op.binOp BinOp.eql 25 (Operand.tmp 68) (Operand.const (Value.int IntKind.i64 3)) 25, type := _, pos := _, after := _, guard := _ }) (v := undef) rfl (by kernel_rfl) (by kernel_rfl) (by kernel_rfl) (fun _ _ _ h => h) (Or.inr ⟨by kernel_rfl, rfl⟩) hHeld ?_
    try simp only [Act.put, List.setIfInBounds_toArray, List.set_cons_zero, List.set_cons_succ]
    refine wpAnyH_take (i := 5) (oi := { dst := some 70, op := Op.pick (Operand.tmp 67) (Operand.tmp 69) (Operand.const (Value.bool false)), type := _, pos := _, after := _, guard := _ }) (v := ?_) rfl (by kernel_rfl) (by kernel_rfl) (by kernel_rfl) (fun _ _ _ h => h) (Or.inl ⟨by rfl, ?_⟩) hHeld ?_
    rotate_left
    · intro wq hSw
      go_simp
      rfl
    try simp only [Act.put, List.setIfInBounds_toArray, List.set_cons_zero, List.set_cons_succ]
    refine wpAnyH_take (i := 6) (oi := { dst := some 71, op := Op.move (Operand.tmp 70), type := _, pos := _, after := _, guard := _ }) (v := ?_) rfl (by kernel_rfl) (by kernel_rfl) (by kernel_rfl) (fun _ _ _ h => h) (Or.inl ⟨by rfl, ?_⟩) hHeld ?_
    rotate_left
    · intro wq hSw
      go_simp
      rfl
    try simp only [Act.put, List.setIfInBounds_toArray, List.set_cons_zero, List.set_cons_succ]
    refine wpAnyH_take (i := 7) (oi := { dst := some 72, op := Op.move (Operand.tmp 6), type := _, pos := _, after := _, guard := _ }) (v := ?_) rfl (by kernel_rfl) (by kernel_rfl) (by kernel_rfl) (fun _ _ _ h => h) (Or.inl ⟨by rfl, ?_⟩) hHeld ?_
    rotate_left
    · intro wq hSw
      go_simp
      rfl
    try simp only [Act.put, List.setIfInBounds_toArray, List.set_cons_zero, List.set_cons_succ]
    refine wpAnyH_take (i := 8) (oi := { dst := some 73, op := Op.binOp BinOp.eql 25 (Operand.tmp 72) (Operand.const (Value.int IntKind.i64 0)) 25, type := _, pos := _, after := _, guard := _ }) (v := ?_) rfl (by kernel_rfl) (by kernel_rfl) (by kernel_rfl) (fun _ _ _ h => h) (Or.inl ⟨by rfl, ?_⟩) hHeld ?_
    rotate_left
    · intro wq hSw
      go_simp
      rfl
    try simp only [Act.put, List.setIfInBounds_toArray, List.set_cons_zero, List.set_cons_succ]
    refine wpAnyH_take (i := 9) (oi := { dst := some 74, op := Op.move (Operand.tmp 73), type := _, pos := _, after := _, guard := _ }) (v := ?_) rfl (by kernel_rfl) (by kernel_rfl) (by kernel_rfl) (fun _ _ _ h => h) (Or.inl ⟨by rfl, ?_⟩) hHeld ?_
    rotate_left
    · intro wq hSw
      go_simp
      rfl
    try simp only [Act.put, List.setIfInBounds_toArray, List.set_cons_zero, List.set_cons_succ]
    refine wpAnyH_take (i := 10) (oi := { dst := some 75, op := Op.move (Operand.tmp 14), type := _, pos := _, after := _, guard := _ }) (v := ?_) rfl (by kernel_rfl) (by kernel_rfl) (by kernel_rfl) (fun _ _ _ h => h) (Or.inl ⟨by rfl, ?_⟩) hHeld ?_
    rotate_left
    · intro wq hSw
      go_simp
      rfl
    try simp only [Act.put, List.setIfInBounds_toArray, List.set_cons_zero, List.set_cons_succ]
    refine wpAnyH_take (i := 11) (oi := { dst := some 76, op := Op.binOp BinOp.eql 25 (Operand.tmp 75) (Operand.const (Value.int IntKind.i64 0)) 25, type := _, pos := _, after := _, guard := _ }) (v := ?_) rfl (by kernel_rfl) (by kernel_rfl) (by kernel_rfl) (fun _ _ _ h => h) (Or.inl ⟨by rfl, ?_⟩) hHeld ?_
    rotate_left
    · intro wq hSw
      go_simp
      rfl
    try simp only [Act.put, List.setIfInBounds_toArray, List.set_cons_zero, List.set_cons_succ]
    refine wpAnyH_take (i := 12) (oi := { dst := some 77, op := Op.pick (Operand.tmp 74) (Operand.tmp 76) (Operand.const (Value.bool false)), type := _, pos := _, after := _, guard := _ }) (v := ?_) rfl (by kernel_rfl) (by kernel_rfl) (by kernel_rfl) (fun _ _ _ h => h) (Or.inl ⟨by rfl, ?_⟩) hHeld ?_
    rotate_left
    · intro wq hSw
      go_simp
      rfl
    try simp only [Act.put, List.setIfInBounds_toArray, List.set_cons_zero, List.set_cons_succ]
    refine wpAnyH_take (i := 13) (oi := { dst := some 78, op := Op.move (Operand.tmp 77), type := _, pos := _, after := _, guard := _ }) (v := ?_) rfl (by kernel_rfl) (by kernel_rfl) (by kernel_rfl) (fun _ _ _ h => h) (Or.inl ⟨by rfl, ?_⟩) hHeld ?_
    rotate_left
    · intro wq hSw
      go_simp
      rfl
    try simp only [Act.put, List.setIfInBounds_toArray, List.set_cons_zero, List.set_cons_succ]
    refine wpAnyH_take (i := 14) (oi := { dst := some 79, op := Op.load 24 (Operand.tmp 13), type := _, pos := _, after := _, guard := _ }) rfl (by kernel_rfl) (by kernel_rfl) (by kernel_rfl) (fun _ _ _ h => h) (yl24 (by kernel_rfl) _ rfl _ rfl (fun w1 h => h.p) (gc_one _ _)) hHeld ?_
    try simp only [Act.put, List.setIfInBounds_toArray, List.set_cons_zero, List.set_cons_succ]
    refine wpAnyH_take (i := 15) (oi := { dst := some 80, op := Op.load 24 (Operand.tmp 5), type := _, pos := _, after := _, guard := _ }) rfl (by kernel_rfl) (by kernel_rfl) (by kernel_rfl) (fun _ _ _ h => h) (yl24 (by kernel_rfl) _ rfl _ rfl (fun w1 h => h.o) (gc_one _ _)) hHeld ?_
    try simp only [Act.put, List.setIfInBounds_toArray, List.set_cons_zero, List.set_cons_succ]
    refine wpAnyH_take (i := 16) (oi := { dst := some 81, op := Op.binOp BinOp.eql 24 (Operand.tmp 79) (Operand.tmp 80) 24, type := _, pos := _, after := _, guard := _ }) (v := .bool true) rfl (by kernel_rfl) (by kernel_rfl) (by kernel_rfl) (fun _ _ _ h => h) (Or.inl ⟨by rfl, fun wq hSw => exec_eq24 (gc_eq _ _) wq _ _ _ rfl rfl _ rfl⟩) hHeld ?_
    try simp only [Act.put, List.setIfInBounds_toArray, List.set_cons_zero, List.set_cons_succ]
    refine wpAnyH_take (i := 17) (oi := { dst := some 82, op := Op.pick (Operand.tmp 78) (Operand.tmp 81) (Operand.const (Value.bool false)), type := _, pos := _, after := _, guard := _ }) (v := ?_) rfl (by kernel_rfl) (by kernel_rfl) (by kernel_rfl) (fun _ _ _ h => h) (Or.inl ⟨by rfl, ?_⟩) hHeld ?_
    rotate_left
    · intro wq hSw
      go_simp
      rfl
    try simp only [Act.put, List.setIfInBounds_toArray, List.set_cons_zero, List.set_cons_succ]
    refine wpAnyH_take (i := 18) (oi := { dst := some 83, op := Op.move (Operand.tmp 82), type := _, pos := _, after := _, guard := _ }) (v := ?_) rfl (by kernel_rfl) (by kernel_rfl) (by kernel_rfl) (fun _ _ _ h => h) (Or.inl ⟨by rfl, ?_⟩) hHeld ?_
    rotate_left
    · intro wq hSw
      go_simp
      rfl
    try simp only [Act.put, List.setIfInBounds_toArray, List.set_cons_zero, List.set_cons_succ]
    refine wpAnyH_take (i := 19) (oi := { dst := some 84, op := Op.move (Operand.tmp 9), type := _, pos := _, after := _, guard := _ }) (v := ?_) rfl (by kernel_rfl) (by kernel_rfl) (by kernel_rfl) (fun _ _ _ h => h) (Or.inl ⟨by rfl, ?_⟩) hHeld ?_
    rotate_left
    · intro wq hSw
      go_simp
      rfl
    try simp only [Act.put, List.setIfInBounds_toArray, List.set_cons_zero, List.set_cons_succ]
    refine wpAnyH_take (i := 21) (oi := { dst := some 86, op := Op.move (Operand.tmp 0), type := _, pos := _, after := _, guard := _ }) (v := ?_) rfl (by kernel_rfl) (by kernel_rfl) (by kernel_rfl) (fun _ _ _ h => h) (Or.inl ⟨by rfl, ?_⟩) hHeld ?_
    rotate_left
    · intro wq hSw
      go_simp
      rfl
    try simp only [Act.put, List.setIfInBounds_toArray, List.set_cons_zero, List.set_cons_succ]
    refine wpAnyH_take (i := 22) (oi := { dst := some 87, op := Op.fieldAddr 24 (Operand.tmp 5) 5, type := _, pos := _, after := _, guard := _ }) (v := ?_) rfl (by kernel_rfl) (by kernel_rfl) (by kernel_rfl) (fun _ _ _ h => h) (Or.inl ⟨by rfl, ?_⟩) hHeld ?_
    rotate_left
    · intro wq hSw
      go_simp
      rfl
    try simp only [Act.put, List.setIfInBounds_toArray, List.set_cons_zero, List.set_cons_succ]
    refine wpAnyH_take (i := 23) (oi := { dst := some 88, op := Op.load 3 (Operand.tmp 87), type := _, pos := _, after := _, guard := _ }) (v := ?_) rfl (by kernel_rfl) (by kernel_rfl) (by kernel_rfl) (fun _ _ _ h => h) (Or.inl ⟨by rfl, ?_⟩) hHeld ?_
    rotate_left
    · intro wq hSw
      have d5 := hSw.d5
      go_simp
      rfl
    try simp only [Act.put, List.setIfInBounds_toArray, List.set_cons_zero, List.set_cons_succ]
    refine wpAnyH_take (i := 24) (oi := { dst := some 89, op := Op.binOp BinOp.sub 3 (Operand.tmp 86) (Operand.tmp 88) 3, type := _, pos := _, after := _, guard := _ }) (v := ?_) rfl (by kernel_rfl) (by kernel_rfl) (by kernel_rfl) (fun _ _ _ h => h) (Or.inl ⟨by rfl, ?_⟩) hHeld ?_
    rotate_left
    · intro wq hSw
      go_simp
      rfl
    try simp only [Act.put, List.setIfInBounds_toArray, List.set_cons_zero, List.set_cons_succ]
    refine wpAnyH_ready (rs := [20]) (by kernel_rfl) (by simp) ?_
    refine AllReadyH.cons (o := { dst := some 85, op := Op.call { callee := Callee.value (Operand.func 14), args := #[Operand.tmp 84], argTypes := #[28] }, type := _, pos := _, after := _, guard := _ }) rfl (fun KK hKK => ?_) AllReadyH.nil
    have hKS := Lib.hid hKK
    clear hKK
    go_simp
    refine (hro _ hHeld.z).mono ?_
    rintro e w20 ⟨rfl, hx⟩
    go_wp2_with fail
    refine hKS.out.out _ _ (hHeld.below hx) (fun hHeld => ?_)
    clear hKS KK hx
    try simp only [Act.put, List.setIfInBounds_toArray, List.set_cons_zero, List.set_cons_succ]
    refine wpAnyH_take (i := 25) (oi := { dst := some 90, op := Op.binOp BinOp.eql 3 (Operand.tmp 85) (Operand.tmp 89) 3, type := _, pos := _, after := _, guard := _ }) (v := ?_) rfl (by kernel_rfl) (by kernel_rfl) (by kernel_rfl) (fun _ _ _ h => h) (Or.inl ⟨by rfl, ?_⟩) hHeld ?_
    rotate_left
    · intro wq hSw
      go_simp
      rfl
    try simp only [Act.put, List.setIfInBounds_toArray, List.set_cons_zero, List.set_cons_succ]
    refine wpAnyH_take (i := 26) (oi := { dst := some 91, op := Op.pick (Operand.tmp 83) (Operand.tmp 90) (Operand.const (Value.bool false)), type := _, pos := _, after := _, guard := _ }) (v := ?_) rfl (by kernel_rfl) (by kernel_rfl) (by kernel_rfl) (fun _ _ _ h => h) (Or.inl ⟨by rfl, ?_⟩) hHeld ?_
    rotate_left
    · intro wq hSw
      go_simp
      rfl
    try simp only [Act.put, List.setIfInBounds_toArray, List.set_cons_zero, List.set_cons_succ]
    refine wpAnyH_take (i := 27) (oi := { dst := some 92, op := Op.pick (Operand.tmp 71) (Operand.const (Value.bool true)) (Operand.tmp 91), type := _, pos := _, after := _, guard := _ }) (v := ?_) rfl (by kernel_rfl) (by kernel_rfl) (by kernel_rfl) (fun _ _ _ h => h) (Or.inl ⟨by rfl, ?_⟩) hHeld ?_
    rotate_left
    · intro wq hSw
      go_simp
      rfl
    try simp only [Act.put, List.setIfInBounds_toArray, List.set_cons_zero, List.set_cons_succ]
    refine wpAnyH_take (i := 28) (oi := { dst := some 4, op := Op.assign (Operand.tmp 92), type := _, pos := _, after := _, guard := _ }) (v := ?_) rfl (by kernel_rfl) (by kernel_rfl) (by kernel_rfl) (fun _ _ _ h => h) (Or.inl ⟨by rfl, ?_⟩) hHeld ?_
    rotate_left
    · intro wq hSw
      go_simp
      rfl
    try simp only [Act.put, List.setIfInBounds_toArray, List.set_cons_zero, List.set_cons_succ]
    refine wpAnyH_done (by kernel_rfl) ?_ _
    go_wp2_with fail
    go_ret
    exact ⟨by first | rfl | simp, hHeld.b⟩
  · have hpl : ∀ w, Calls Tryd.prog 8 #[.int .i64 b, .int .i64 n] w fun e w' => e = .returned (.tuple #[.agg gz, .int .i64 (Gm.planE b n)]) ∧ Below w.heap.size w w' := fun w => by
      refine (plan_any b n w).mono ?_
      rintro e w' ⟨h, hb⟩
      refine ⟨?_, hb⟩
      rcases h with ⟨x', y', rfl, rfl, hf, rfl⟩ | ⟨_, h⟩
      · exact absurd (Gm.planE_fits hf) hE
      · exact h
    have hrp : ∀ w, Calls Tryd.prog 9 #[.int .i64 b, .int .i64 n] w fun e w' => e = .returned (.tuple #[.agg gz, .int .i64 (Gm.planE b n)]) ∧ Below w.heap.size w w' := fun w => by
      refine (rplan_any b n w).mono ?_
      rintro e w' ⟨h, hb⟩
      refine ⟨?_, hb⟩
      rcases h with ⟨x', y', rfl, rfl, hf, rfl⟩ | ⟨_, h⟩
      · exact absurd (Gm.planE_fits hf) hE
      · exact h
    have hfm : ∀ w, Calls Tryd.prog 10 #[.int .i64 b, .int .i64 n] w fun e w' => e = .returned (.tuple #[.slice none 0 0, .int .i64 (Gm.planE b n)]) ∧ Below w.heap.size w w' := fun w => by
      refine (format_any b n w).mono ?_
      rintro e w' ⟨h, hb⟩
      refine ⟨?_, hb⟩
      rcases h with ⟨K, hK, rfl, h⟩ | ⟨x', y', A', c', rfl, rfl, hf, _⟩
      · exact h
      · exact absurd (Gm.planE_fits hf) hE
    have hrf : ∀ w, Calls Tryd.prog 11 #[.int .i64 b, .int .i64 n] w fun e w' => e = .returned (.tuple #[.slice none 0 0, .int .i64 (Gm.planE b n)]) ∧ Below w.heap.size w w' := fun w => by
      refine (rformat_any b n w).mono ?_
      rintro e w' ⟨h, hb⟩
      refine ⟨?_, hb⟩
      rcases h with ⟨K, hK, rfl, h⟩ | ⟨x', y', A', c', rfl, rfl, hf, _⟩
      · exact h
      · exact absurd (Gm.planE_fits hf) hE
    have hof : ∀ w, Calls Tryd.prog 13 #[.slice none 0 0] w fun e w' => e = .returned (.tuple #[.agg gz, .int .i64 3]) ∧ Below w.heap.size w w' := fun w => by
      refine (of_any none 0 0 [] w (Tz.nil w) (fun k hk => absurd hk (Nat.not_lt_zero _))).mono ?_
      rintro e w' ⟨h, hb⟩
      refine ⟨?_, hb⟩
      rcases h with ⟨b, n, hv', _⟩ | ⟨_, h⟩
      · exact absurd hv' (no_vol_nil _ _)
      · exact h
    have hsame : ∀ w, Calls Tryd.prog 12 #[.slice none 0 0, .slice none 0 0] w fun e w' => e = .returned (.bool true) ∧ Dr w w' := fun w => by
      have := same_any none none 0 0 0 0 [] [] w (Tz.nil w).t (Tz.nil w).t (by omega) (by omega)
      rw [decide_eq_true rfl] at this
      exact this
    generalize Gm.planE b n = K at *
    have t1 : (K != 0) = true := by rw [bne_iff_ne]; exact hE
    have t2 : (K != K) = false := by simp
    clear hE
    go_enter Tryd.func3, Tryd.ntmps3
    go_wp2_with fail
    refine (alive_any _).mono ?_
    rintro e w1 ⟨rfl, hb1⟩
    go_wp2_with fail
    refine (hpl _).mono ?_
    rintro e w2 ⟨rfl, hx2'⟩
    have hb2 := (hb1.trans (hx2'.mono hb1.size))
    have hb2' := hb2.trans ((grow w2 (Obj.cells gz 24)).mono hb2.size)
    have og := Nm.Own.new w2 24 gz
    go_wp2_with (refine sto24 (cs := gz) rfl rfl rfl rfl og gz_one gz_one ?_)
    intro w5 o5 s5
    have hb5 := s5.below hb2' hb2.size
    clear hx2' hb2 hb2' og s5 hb1
    generalize w2.heap.size = g at *
    go_wp2_with fail
    refine (hrp _).mono ?_
    rintro e w6 ⟨rfl, hx6⟩
    have hb6 := hb5.trans (hx6.mono hb5.size)
    have hb6' := hb6.trans ((grow w6 (Obj.cells gz 24)).mono hb6.size)
    have o6 := (o5.below hx6).below (grow w6 (Obj.cells gz 24))
    have hgh : g < w6.heap.size := (o5.below hx6).lt
    have og := Nm.Own.new w6 24 gz
    go_wp2_with (refine sto24 (cs := gz) rfl rfl rfl rfl og gz_one gz_one ?_)
    intro w7 p7 s7
    have hb7 := s7.below hb6' hb6.size
    have o7 := s7.own o6 (by omega)
    clear hx6 hb6 hb6' og s7 o6 hb5 o5
    generalize w6.heap.size = h at *
    go_wp2_with fail
    refine (hfm _).mono ?_
    rintro e w8 ⟨rfl, hx8⟩
    have o8 := o7.below hx8
    have p8 := p7.below hx8
    have hb8 := hb7.trans (hx8.mono hb7.size)
    clear o7 p7 hb7 hx8
    go_wp2_with fail
    refine (hrf _).mono ?_
    rintro e w9 ⟨rfl, hx9⟩
    have o9 := o8.below hx9
    have p9 := p8.below hx9
    have hb9 := hb8.trans (hx9.mono hb8.size)
    clear o8 p8 hb8 hx9
    go_wp2_with (first | (refine ld24 rfl rfl rfl o9 gz_one ?_) | (refine ld24 rfl rfl rfl p9 gz_one ?_) | (refine ne24 (by rfl) rfl rfl rfl gz_eq ?_))
    refine (hsame _).mono ?_
    rintro e w10 ⟨rfl, hd⟩
    have hb10 := below_dr hb9 hd
    clear o9 p9 hb9 hd
    go_wp2_with fail
    refine (hof _).mono ?_
    rintro e w11 ⟨rfl, hx11⟩
    have hb11 := hb10.trans (hx11.mono hb10.size)
    have hg11 := grow w11 (Obj.cells gz 24)
    have hb11' := hb11.trans (hg11.mono hb11.size)
    have og := Nm.Own.new w11 24 gz
    go_wp2_with (refine sto24 (cs := gz) rfl rfl rfl rfl og gz_one gz_one ?_)
    intro w12 p12 s12
    have hb12 := s12.below hb11' hb11.size
    clear hx11 hb11 hg11 hb11' og s12 p12 hb10
    go_wp2_with fail
    go_quiet (fail)
    go_wp2_with fail
    go_ret
    exact ⟨rfl, below_dr hb12 ⟨_, rfl⟩⟩
end Dw
end Go.Proofs.YtjfehloohpnmpaaDoor
