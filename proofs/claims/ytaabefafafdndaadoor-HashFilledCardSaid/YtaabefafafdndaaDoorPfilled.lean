/-
  For every text, number and key the law HashFilled returns true: noughts behind a text count, at all lengths about a block's; the package's two tables start as the program's text lays them.
-/
import Derived.Test.YtaabefafafdndaaDoorRows
import Derived.Test.YtaabefafafdndaaDoorCards
import Derived.Test.YtaabefafafdndaaDoorTie
import Derived.Test.YtaabefafafdndaaDoorEq
import Derived.WalkKit
import Derived.ProofKit
import Derived.LaidMore
import Derived.OpenShut
import Derived.ShutString
import Derived.Stop.Joined
import Derived.Test.YtaabefafafdndaaDoorKf
namespace Go.Proofs.YtaabefafafdndaaDoor.hashFilled
open Go.ChangeShapes Go.WideShapes Go.ChangeAt Go.RowKit
open Go.ChangeMaps (open_string shut_string)
set_option linter.unusedVariables false

theorem own : ownKnob Tryd.prog.godebug = none := by kernel_rfl
def laid2 {H : Type} : List (String × DataW H) := [("hibernacle/hash.eight", Rows.laid_hibernacle_hash_eight), ("hibernacle/hash.rows", Rows.laid_hibernacle_hash_rows)]
theorem door_met (os : Os) (args : Array Value) : laidMetH Tryd.prog laid2 ((World.doorLaid Tryd.prog 400 os).forCall (fun _ _ => 0) ⟨#[], args, []⟩).memory :=
  laidMetH_of_parts3 (fuel := 8) (laidMet_of_run' 8 (by kernel_rfl) (by kernel_rfl)) (by kernel_rfl) (by kernel_rfl)
theorem textRoom {b : ByteArray} : lenV (.string b) = b.size := rfl
set_option maxRecDepth 100000 in
set_option maxHeartbeats 8000000 in
theorem walk (s : ByteArray) (n : Nat) (K : List Nat) (ws : s.size ≤ maxLen) (hn : n < 256) (hK : Bl.By K) (lK : K.length = 32) (w : World) (hT : Tab w) :
    Calls Tryd.prog 8 #[.string s, .int .u8 (n : Int), .agg (vs .u8 K)] w fun e w' => e = .returned (.bool true) ∧ Below w.heap.size w w' := by
  have hmax : maxLen ≤ 9223372036854775807 := by decide
  have hmax3 : 300 ≤ maxLen := by decide
  obtain ⟨W0, hW0⟩ : ∃ W0, W0 = w.alloc (Obj.cells (vs .u8 K) 28) := ⟨_, rfl⟩
  have st : Kf w W0 K := by rw [hW0]; exact ⟨Own.new _ _ _, (Below.refl _ w).alloc (Nat.le_refl _) _⟩
  have ha := alive_any W0 (hT.below st.b)
  have HW0 := Lib.hid hW0
  clear hW0
  obtain ⟨m, hm⟩ : ∃ m, m = 64 * (n % 4) := ⟨_, rfl⟩
  have em : IntKind.i64.wrap (64 * ((n : Int) % 4)) = (m : Int) := by rw [IntWalk.i64_in _ (by omega)]; omega
  have em1 : IntKind.i64.wrap ((m : Int) + 1) = (m : Int) + 1 := IntWalk.i64_in _ (by omega)
  have hm2 : m ≤ 192 := by omega
  clear hm
  go_enter Tryd.func8, Tryd.ntmps8
  go_wp2_with fail
  rw [← HW0.out]
  refine ha.mono ?_
  rintro e w1 ⟨rfl, hx⟩
  replace st := st.below hx
  clear hx ha HW0
  go_wp2_with fail
  go_loopw [8] (fun i' wr => ∃ b : ByteArray, i' = .string b ∧ (b = s ∨ b.size ≤ 300) ∧ wr = w1) (fun i _ => 300 - lenV i)
  case atStart => exact ⟨s, rfl, .inl rfl, rfl⟩
  case round =>
    obtain ⟨b, rfl, hb, rfl⟩ := hrel
    have hbm : b.size ≤ maxLen := by rcases hb with rfl | h; exact ws; omega
    by_cases hc : b.size < m + 1 ∧ b.size < 300
    · have c1 : (b.size : Int) < (m : Int) + 1 := by omega
      have c2 : (b.size : Int) < 300 := by omega
      have c3 : b.size + 1 ≤ 300 := by omega
      clear hb
      go_wp2_with fail
      go_roundw
      case rel => exact ⟨_, rfl, .inr (by rw [ByteArray.size_append]; exact c3), trivial⟩
      case measure => simp only [lenV, ByteArray.size_append]; change 300 - (b.size + 1) < 300 - b.size; omega
    · have hcc : (decide ((b.size : Int) < (m : Int) + 1) && decide ((b.size : Int) < 300)) = false := by
        rw [Bool.and_eq_false_iff, decide_eq_false_iff_not, decide_eq_false_iff_not]; omega
      clear hc hb
      by_cases hbig : 400 < b.size
      · have d0 : 400 < (b.size : Int) := by omega
        have d1 : decide ((b.size : Int) < (m : Int) + 1) = false := by simp; omega
        go_wp2_with fail
        go_ret
        exact ⟨rfl, st.b⟩
      · have d0 : decide (400 < (b.size : Int)) = false := by simp; omega
        obtain ⟨q, hq⟩ : ∃ q, q = b.size - 1 := ⟨_, rfl⟩
        have e3 : IntKind.i64.wrap ((b.size : Int) - 1) = (b.size : Int) - 1 := IntWalk.i64_in _ (by omega)
        have e4 : max ((b.size : Int) - 1) 0 = (q : Int) := by omega
        have q1 : (q : Int) ≤ (b.size : Int) := by omega
        have hcut : ∀ x, x = b.extract 0 q → x.size ≤ 400 := fun x hx => by rw [hx, ByteArray.size_extract]; omega
        obtain ⟨u, hu⟩ : ∃ u, u = b.extract 0 q := ⟨_, rfl⟩
        have hus := hcut u hu
        have HU := Lib.hid hu
        clear hu hcut hq
        have sb : ∀ wr g, Kf w wr K → Pt wr g [b] → Calls Tryd.prog 10 #[.slice (some ⟨g, 0, none⟩) 1 1] wr fun e w' => e = .returned (.agg (vs .u8 (Bl.sum (tn b)))) ∧ Below wr.heap.size wr w' := fun wr g o p => by
          have := sum_pt hT o.b p rfl (by simp) (by rw [cat_one, tn_length]; omega)
          rw [cat_one] at this; exact this
        have ob := fun wr => one_any b wr (by omega)
        have kb : ∀ wr g, Kf w wr K → Pt wr g [b] → Calls Tryd.prog 12 #[.agg (vs .u8 K), .slice (some ⟨g, 0, none⟩) 1 1] wr fun e w' => e = .returned (.agg (vs .u8 (Bl.keyed K (tn b)))) ∧ Below wr.heap.size wr w' := fun wr g o p => by
          have := keyed_pt hK lK hT o p rfl (by simp) (by rw [cat_one, tn_length]; omega)
          rw [cat_one] at this; exact this
        have rb : ∀ wr g, Pt wr g [b] → Calls Tryd.prog 13 #[.agg (vs .u8 K), .slice (some ⟨g, 0, none⟩) 1 1] wr fun e w' => e = .returned (.agg (vs .u8 (Bl.keyed K (tn b)))) ∧ Below wr.heap.size wr w' := fun wr g p => by
          have := rkeyed_pt hK lK p rfl (by simp) (by rw [cat_one, tn_length]; omega)
          rw [cat_one] at this; exact this
        have lD : (Bl.sum (tn b)).length = 32 := Bl.digest_length _ _
        have lF : (Bl.keyed K (tn b)).length = 32 := Bl.digest_length _ _
        generalize Bl.sum (tn b) = D at *
        generalize Bl.keyed K (tn b) = F at *
        have su : ∀ wr g, Kf w wr K → Pt wr g [u] → Calls Tryd.prog 10 #[.slice (some ⟨g, 0, none⟩) 1 1] wr fun e w' => e = .returned (.agg (vs .u8 (Bl.sum (tn u)))) ∧ Below wr.heap.size wr w' := fun wr g o p => by
          have := sum_pt hT o.b p rfl (by simp) (by rw [cat_one, tn_length]; omega)
          rw [cat_one] at this; exact this
        have ou := fun wr => one_any u wr (by omega)
        have ku : ∀ wr g, Kf w wr K → Pt wr g [u] → Calls Tryd.prog 12 #[.agg (vs .u8 K), .slice (some ⟨g, 0, none⟩) 1 1] wr fun e w' => e = .returned (.agg (vs .u8 (Bl.keyed K (tn u)))) ∧ Below wr.heap.size wr w' := fun wr g o p => by
          have := keyed_pt hK lK hT o p rfl (by simp) (by rw [cat_one, tn_length]; omega)
          rw [cat_one] at this; exact this
        have ru : ∀ wr g, Pt wr g [u] → Calls Tryd.prog 13 #[.agg (vs .u8 K), .slice (some ⟨g, 0, none⟩) 1 1] wr fun e w' => e = .returned (.agg (vs .u8 (Bl.keyed K (tn u)))) ∧ Below wr.heap.size wr w' := fun wr g p => by
          have := rkeyed_pt hK lK p rfl (by simp) (by rw [cat_one, tn_length]; omega)
          rw [cat_one] at this; exact this
        have lE : (Bl.sum (tn u)).length = 32 := Bl.digest_length _ _
        have lG : (Bl.keyed K (tn u)).length = 32 := Bl.digest_length _ _
        generalize Bl.sum (tn u) = E at *
        generalize Bl.keyed K (tn u) = G at *
        by_cases d1 : b.size < m + 1
        · have d2 : (b.size : Int) < (m : Int) + 1 := by omega
          have d3 : decide ((b.size : Int) < 300) = false := by
            have : ¬ ((b.size : Int) < 300) := by
              intro h
              simp [d2, h] at hcc
            simp [this]
          clear hcc
          go_wp2_with fail
          rw [← HU.out]
          refine wp_region_held_drew (S := fun w' => Kf w w' K) (by kernel_rfl) st.drew (fun hHeld => ?_)
          clear st
          generalize World.drew _ = W1 at *
          refine wpAnyH_take (i := 0) (oi := { dst := some 38, op := Op.move (Operand.tmp 8), type := _, pos := _, after := _, guard := _ }) (v := ?_) rfl (by kernel_rfl) (by kernel_rfl) (by kernel_rfl) (fun _ _ _ h => h) (Or.inl ⟨by rfl, ?_⟩) hHeld ?_
          rotate_left
          · intro wq hSw
            go_simp
            rfl
          try simp only [Act.put, List.setIfInBounds_toArray, List.set_cons_zero, List.set_cons_succ]
          refine wpAnyH_take (i := 3) (oi := { dst := some 41, op := Op.move (Operand.tmp 8), type := _, pos := _, after := _, guard := _ }) (v := ?_) rfl (by kernel_rfl) (by kernel_rfl) (by kernel_rfl) (fun _ _ _ h => h) (Or.inl ⟨by rfl, ?_⟩) hHeld ?_
          rotate_left
          · intro wq hSw
            go_simp
            rfl
          try simp only [Act.put, List.setIfInBounds_toArray, List.set_cons_zero, List.set_cons_succ]
          refine wpAnyH_ready (rs := [1]) (by kernel_rfl) (by simp) ?_
          refine AllReadyH.cons (o := { dst := some 39, op := Op.buildSlice 31 1 #[(0, Operand.tmp 38)], type := _, pos := _, after := _, guard := _ }) rfl (fun KK hKK => ?_) AllReadyH.nil
          have hKS := Lib.hid hKK
          clear hKK
          go_simp
          refine hKS.out.out _ _ (hHeld.below (grow _ _)) (fun hHeld => ?_)
          clear hKS KK
          have hx := grow W1 (Obj.cells #[.string b] 9)
          try replace p8 := p8.below hx
          try replace p17 := p17.below hx
          try replace p21 := p21.below hx
          try replace p28 := p28.below hx
          try replace p32 := p32.below hx
          have p1 := Pt.new1 W1 b
          clear hx
          generalize World.alloc W1 (Obj.cells #[.string b] 9) = v1 at *
          generalize World.heap W1 = h1 at *
          generalize h1.size = g1 at *
          try simp only [Act.put, List.setIfInBounds_toArray, List.set_cons_zero, List.set_cons_succ]
          refine wpAnyH_ready (rs := [2]) (by kernel_rfl) (by simp) ?_
          refine AllReadyH.cons (o := { dst := some 40, op := Op.call { callee := Callee.value (Operand.func 10), args := #[Operand.tmp 39], argTypes := #[31] }, type := _, pos := _, after := _, guard := _ }) rfl (fun KK hKK => ?_) AllReadyH.nil
          have hKS := Lib.hid hKK
          clear hKK
          go_simp
          refine (sb _ _ hHeld p1).mono ?_
          rintro e w2 ⟨rfl, hx⟩
          go_wp2_with fail
          try replace p1 := p1.below hx
          try replace p8 := p8.below hx
          try replace p17 := p17.below hx
          try replace p21 := p21.below hx
          try replace p28 := p28.below hx
          try replace p32 := p32.below hx
          refine hKS.out.out _ _ (hHeld.below hx) (fun hHeld => ?_)
          clear hKS KK hx
          try simp only [Act.put, List.setIfInBounds_toArray, List.set_cons_zero, List.set_cons_succ]
          refine wpAnyH_ready (rs := [4]) (by kernel_rfl) (by simp) ?_
          refine AllReadyH.cons (o := { dst := some 42, op := Op.call { callee := Callee.value (Operand.func 11), args := #[Operand.tmp 41], argTypes := #[9] }, type := _, pos := _, after := _, guard := _ }) rfl (fun KK hKK => ?_) AllReadyH.nil
          have hKS := Lib.hid hKK
          clear hKK
          go_simp
          refine (ob _).mono ?_
          rintro e w4 ⟨rfl, hx⟩
          go_wp2_with fail
          try replace p1 := p1.below hx
          try replace p8 := p8.below hx
          try replace p17 := p17.below hx
          try replace p21 := p21.below hx
          try replace p28 := p28.below hx
          try replace p32 := p32.below hx
          refine hKS.out.out _ _ (hHeld.below hx) (fun hHeld => ?_)
          clear hKS KK hx
          try simp only [Act.put, List.setIfInBounds_toArray, List.set_cons_zero, List.set_cons_succ]
          refine wpAnyH_take (i := 5) (oi := { dst := some 43, op := Op.binOp BinOp.eql 24 (Operand.tmp 40) (Operand.tmp 42) 24, type := _, pos := _, after := _, guard := _ }) (v := .bool true) rfl (by kernel_rfl) (by kernel_rfl) (by kernel_rfl) (fun _ _ _ h => h) (Or.inl ⟨by rfl, fun wq hSw => exec_same D lD wq _ _ _ rfl rfl _ rfl⟩) hHeld ?_
          try simp only [Act.put, List.setIfInBounds_toArray, List.set_cons_zero, List.set_cons_succ]
          refine wpAnyH_take (i := 6) (oi := { dst := some 44, op := Op.move (Operand.tmp 43), type := _, pos := _, after := _, guard := _ }) (v := ?_) rfl (by kernel_rfl) (by kernel_rfl) (by kernel_rfl) (fun _ _ _ h => h) (Or.inl ⟨by rfl, ?_⟩) hHeld ?_
          rotate_left
          · intro wq hSw
            go_simp
            rfl
          try simp only [Act.put, List.setIfInBounds_toArray, List.set_cons_zero, List.set_cons_succ]
          refine wpAnyH_take (i := 7) (oi := { dst := some 45, op := Op.move (Operand.tmp 9), type := _, pos := _, after := _, guard := _ }) (v := ?_) rfl (by kernel_rfl) (by kernel_rfl) (by kernel_rfl) (fun _ _ _ h => h) (Or.inl ⟨by rfl, ?_⟩) hHeld ?_
          rotate_left
          · intro wq hSw
            go_simp
            rfl
          try simp only [Act.put, List.setIfInBounds_toArray, List.set_cons_zero, List.set_cons_succ]
          refine wpAnyH_take (i := 10) (oi := { dst := some 48, op := Op.move (Operand.tmp 9), type := _, pos := _, after := _, guard := _ }) (v := ?_) rfl (by kernel_rfl) (by kernel_rfl) (by kernel_rfl) (fun _ _ _ h => h) (Or.inl ⟨by rfl, ?_⟩) hHeld ?_
          rotate_left
          · intro wq hSw
            go_simp
            rfl
          try simp only [Act.put, List.setIfInBounds_toArray, List.set_cons_zero, List.set_cons_succ]
          refine wpAnyH_ready (rs := [8]) (by kernel_rfl) (by simp) ?_
          refine AllReadyH.cons (o := { dst := some 46, op := Op.buildSlice 31 1 #[(0, Operand.tmp 45)], type := _, pos := _, after := _, guard := _ }) rfl (fun KK hKK => ?_) AllReadyH.nil
          have hKS := Lib.hid hKK
          clear hKK
          go_simp
          refine hKS.out.out _ _ (hHeld.below (grow _ _)) (fun hHeld => ?_)
          clear hKS KK
          have hx := grow w4 (Obj.cells #[.string u] 9)
          try replace p1 := p1.below hx
          try replace p17 := p17.below hx
          try replace p21 := p21.below hx
          try replace p28 := p28.below hx
          try replace p32 := p32.below hx
          have p8 := Pt.new1 w4 u
          clear hx
          generalize World.alloc w4 (Obj.cells #[.string u] 9) = v8 at *
          generalize World.heap w4 = h8 at *
          generalize h8.size = g8 at *
          try simp only [Act.put, List.setIfInBounds_toArray, List.set_cons_zero, List.set_cons_succ]
          refine wpAnyH_ready (rs := [9]) (by kernel_rfl) (by simp) ?_
          refine AllReadyH.cons (o := { dst := some 47, op := Op.call { callee := Callee.value (Operand.func 10), args := #[Operand.tmp 46], argTypes := #[31] }, type := _, pos := _, after := _, guard := _ }) rfl (fun KK hKK => ?_) AllReadyH.nil
          have hKS := Lib.hid hKK
          clear hKK
          go_simp
          refine (su _ _ hHeld p8).mono ?_
          rintro e w9 ⟨rfl, hx⟩
          go_wp2_with fail
          try replace p1 := p1.below hx
          try replace p8 := p8.below hx
          try replace p17 := p17.below hx
          try replace p21 := p21.below hx
          try replace p28 := p28.below hx
          try replace p32 := p32.below hx
          refine hKS.out.out _ _ (hHeld.below hx) (fun hHeld => ?_)
          clear hKS KK hx
          try simp only [Act.put, List.setIfInBounds_toArray, List.set_cons_zero, List.set_cons_succ]
          refine wpAnyH_ready (rs := [11]) (by kernel_rfl) (by simp) ?_
          refine AllReadyH.cons (o := { dst := some 49, op := Op.call { callee := Callee.value (Operand.func 11), args := #[Operand.tmp 48], argTypes := #[9] }, type := _, pos := _, after := _, guard := _ }) rfl (fun KK hKK => ?_) AllReadyH.nil
          have hKS := Lib.hid hKK
          clear hKK
          go_simp
          refine (ou _).mono ?_
          rintro e w11 ⟨rfl, hx⟩
          go_wp2_with fail
          try replace p1 := p1.below hx
          try replace p8 := p8.below hx
          try replace p17 := p17.below hx
          try replace p21 := p21.below hx
          try replace p28 := p28.below hx
          try replace p32 := p32.below hx
          refine hKS.out.out _ _ (hHeld.below hx) (fun hHeld => ?_)
          clear hKS KK hx
          try simp only [Act.put, List.setIfInBounds_toArray, List.set_cons_zero, List.set_cons_succ]
          refine wpAnyH_take (i := 12) (oi := { dst := some 50, op := Op.binOp BinOp.eql 24 (Operand.tmp 47) (Operand.tmp 49) 24, type := _, pos := _, after := _, guard := _ }) (v := .bool true) rfl (by kernel_rfl) (by kernel_rfl) (by kernel_rfl) (fun _ _ _ h => h) (Or.inl ⟨by rfl, fun wq hSw => exec_same E lE wq _ _ _ rfl rfl _ rfl⟩) hHeld ?_
          try simp only [Act.put, List.setIfInBounds_toArray, List.set_cons_zero, List.set_cons_succ]
          refine wpAnyH_take (i := 13) (oi := { dst := some 51, op := Op.pick (Operand.tmp 44) (Operand.tmp 50) (Operand.const (Value.bool false)), type := _, pos := _, after := _, guard := _ }) (v := ?_) rfl (by kernel_rfl) (by kernel_rfl) (by kernel_rfl) (fun _ _ _ h => h) (Or.inl ⟨by rfl, ?_⟩) hHeld ?_
          rotate_left
          · intro wq hSw
            go_simp
            rfl
          try simp only [Act.put, List.setIfInBounds_toArray, List.set_cons_zero, List.set_cons_succ]
          refine wpAnyH_take (i := 14) (oi := { dst := some 52, op := Op.move (Operand.tmp 51), type := _, pos := _, after := _, guard := _ }) (v := ?_) rfl (by kernel_rfl) (by kernel_rfl) (by kernel_rfl) (fun _ _ _ h => h) (Or.inl ⟨by rfl, ?_⟩) hHeld ?_
          rotate_left
          · intro wq hSw
            go_simp
            rfl
          try simp only [Act.put, List.setIfInBounds_toArray, List.set_cons_zero, List.set_cons_succ]
          refine wpAnyH_take (i := 15) (oi := { dst := some 53, op := Op.load 28 (Operand.tmp 5), type := _, pos := _, after := _, guard := _ }) rfl (by kernel_rfl) (by kernel_rfl) (by kernel_rfl) (fun _ _ _ h => h) (yl t28 (by rfl) _ rfl _ rfl (fun w1 h => h.k) lK) hHeld ?_
          try simp only [Act.put, List.setIfInBounds_toArray, List.set_cons_zero, List.set_cons_succ]
          refine wpAnyH_take (i := 16) (oi := { dst := some 54, op := Op.move (Operand.tmp 8), type := _, pos := _, after := _, guard := _ }) (v := ?_) rfl (by kernel_rfl) (by kernel_rfl) (by kernel_rfl) (fun _ _ _ h => h) (Or.inl ⟨by rfl, ?_⟩) hHeld ?_
          rotate_left
          · intro wq hSw
            go_simp
            rfl
          try simp only [Act.put, List.setIfInBounds_toArray, List.set_cons_zero, List.set_cons_succ]
          refine wpAnyH_take (i := 19) (oi := { dst := some 57, op := Op.load 28 (Operand.tmp 5), type := _, pos := _, after := _, guard := _ }) rfl (by kernel_rfl) (by kernel_rfl) (by kernel_rfl) (fun _ _ _ h => h) (yl t28 (by rfl) _ rfl _ rfl (fun w1 h => h.k) lK) hHeld ?_
          try simp only [Act.put, List.setIfInBounds_toArray, List.set_cons_zero, List.set_cons_succ]
          refine wpAnyH_take (i := 20) (oi := { dst := some 58, op := Op.move (Operand.tmp 8), type := _, pos := _, after := _, guard := _ }) (v := ?_) rfl (by kernel_rfl) (by kernel_rfl) (by kernel_rfl) (fun _ _ _ h => h) (Or.inl ⟨by rfl, ?_⟩) hHeld ?_
          rotate_left
          · intro wq hSw
            go_simp
            rfl
          try simp only [Act.put, List.setIfInBounds_toArray, List.set_cons_zero, List.set_cons_succ]
          refine wpAnyH_ready (rs := [17, 21]) (by kernel_rfl) (by simp) ?_
          refine AllReadyH.cons (o := { dst := some 55, op := Op.buildSlice 31 1 #[(0, Operand.tmp 54)], type := _, pos := _, after := _, guard := _ }) rfl (fun KK hKK => ?_) ?_
          · have hKS := Lib.hid hKK
            clear hKK
            go_simp
            refine hKS.out.out _ _ (hHeld.below (grow _ _)) (fun hHeld => ?_)
            clear hKS KK
            have hx := grow w11 (Obj.cells #[.string b] 9)
            try replace p1 := p1.below hx
            try replace p8 := p8.below hx
            try replace p21 := p21.below hx
            try replace p28 := p28.below hx
            try replace p32 := p32.below hx
            have p17 := Pt.new1 w11 b
            clear hx
            generalize World.alloc w11 (Obj.cells #[.string b] 9) = v17 at *
            generalize World.heap w11 = h17 at *
            generalize h17.size = g17 at *
            try simp only [Act.put, List.setIfInBounds_toArray, List.set_cons_zero, List.set_cons_succ]
            refine wpAnyH_ready (rs := [18, 21]) (by kernel_rfl) (by simp) ?_
            refine AllReadyH.cons (o := { dst := some 56, op := Op.call { callee := Callee.value (Operand.func 12), args := #[Operand.tmp 53, Operand.tmp 55], argTypes := #[28, 31] }, type := _, pos := _, after := _, guard := _ }) rfl (fun KK hKK => ?_) ?_
            · have hKS := Lib.hid hKK
              clear hKK
              go_simp
              refine (kb _ _ hHeld p17).mono ?_
              rintro e w18 ⟨rfl, hx⟩
              go_wp2_with fail
              try replace p1 := p1.below hx
              try replace p8 := p8.below hx
              try replace p17 := p17.below hx
              try replace p21 := p21.below hx
              try replace p28 := p28.below hx
              try replace p32 := p32.below hx
              refine hKS.out.out _ _ (hHeld.below hx) (fun hHeld => ?_)
              clear hKS KK hx
              try simp only [Act.put, List.setIfInBounds_toArray, List.set_cons_zero, List.set_cons_succ]
              refine wpAnyH_ready (rs := [21]) (by kernel_rfl) (by simp) ?_
              refine AllReadyH.cons (o := { dst := some 59, op := Op.buildSlice 31 1 #[(0, Operand.tmp 58)], type := _, pos := _, after := _, guard := _ }) rfl (fun KK hKK => ?_) AllReadyH.nil
              have hKS := Lib.hid hKK
              clear hKK
              go_simp
              refine hKS.out.out _ _ (hHeld.below (grow _ _)) (fun hHeld => ?_)
              clear hKS KK
              have hx := grow w18 (Obj.cells #[.string b] 9)
              try replace p1 := p1.below hx
              try replace p8 := p8.below hx
              try replace p17 := p17.below hx
              try replace p28 := p28.below hx
              try replace p32 := p32.below hx
              have p21 := Pt.new1 w18 b
              clear hx
              generalize World.alloc w18 (Obj.cells #[.string b] 9) = v21 at *
              generalize World.heap w18 = h21 at *
              generalize h21.size = g21 at *
              try simp only [Act.put, List.setIfInBounds_toArray, List.set_cons_zero, List.set_cons_succ]
              refine wpAnyH_ready (rs := [22]) (by kernel_rfl) (by simp) ?_
              refine AllReadyH.cons (o := { dst := some 60, op := Op.call { callee := Callee.value (Operand.func 13), args := #[Operand.tmp 57, Operand.tmp 59], argTypes := #[28, 31] }, type := _, pos := _, after := _, guard := _ }) rfl (fun KK hKK => ?_) AllReadyH.nil
              have hKS := Lib.hid hKK
              clear hKK
              go_simp
              refine (rb _ _ p21).mono ?_
              rintro e w22 ⟨rfl, hx⟩
              go_wp2_with fail
              try replace p1 := p1.below hx
              try replace p8 := p8.below hx
              try replace p17 := p17.below hx
              try replace p21 := p21.below hx
              try replace p28 := p28.below hx
              try replace p32 := p32.below hx
              refine hKS.out.out _ _ (hHeld.below hx) (fun hHeld => ?_)
              clear hKS KK hx
              try simp only [Act.put, List.setIfInBounds_toArray, List.set_cons_zero, List.set_cons_succ]
              refine wpAnyH_take (i := 23) (oi := { dst := some 61, op := Op.binOp BinOp.eql 24 (Operand.tmp 56) (Operand.tmp 60) 24, type := _, pos := _, after := _, guard := _ }) (v := .bool true) rfl (by kernel_rfl) (by kernel_rfl) (by kernel_rfl) (fun _ _ _ h => h) (Or.inl ⟨by rfl, fun wq hSw => exec_same F lF wq _ _ _ rfl rfl _ rfl⟩) hHeld ?_
              try simp only [Act.put, List.setIfInBounds_toArray, List.set_cons_zero, List.set_cons_succ]
              refine wpAnyH_take (i := 24) (oi := { dst := some 62, op := Op.pick (Operand.tmp 52) (Operand.tmp 61) (Operand.const (Value.bool false)), type := _, pos := _, after := _, guard := _ }) (v := ?_) rfl (by kernel_rfl) (by kernel_rfl) (by kernel_rfl) (fun _ _ _ h => h) (Or.inl ⟨by rfl, ?_⟩) hHeld ?_
              rotate_left
              · intro wq hSw
                go_simp
                rfl
              try simp only [Act.put, List.setIfInBounds_toArray, List.set_cons_zero, List.set_cons_succ]
              refine wpAnyH_take (i := 25) (oi := { dst := some 63, op := Op.move (Operand.tmp 62), type := _, pos := _, after := _, guard := _ }) (v := ?_) rfl (by kernel_rfl) (by kernel_rfl) (by kernel_rfl) (fun _ _ _ h => h) (Or.inl ⟨by rfl, ?_⟩) hHeld ?_
              rotate_left
              · intro wq hSw
                go_simp
                rfl
              try simp only [Act.put, List.setIfInBounds_toArray, List.set_cons_zero, List.set_cons_succ]
              refine wpAnyH_take (i := 26) (oi := { dst := some 64, op := Op.load 28 (Operand.tmp 5), type := _, pos := _, after := _, guard := _ }) rfl (by kernel_rfl) (by kernel_rfl) (by kernel_rfl) (fun _ _ _ h => h) (yl t28 (by rfl) _ rfl _ rfl (fun w1 h => h.k) lK) hHeld ?_
              try simp only [Act.put, List.setIfInBounds_toArray, List.set_cons_zero, List.set_cons_succ]
              refine wpAnyH_take (i := 27) (oi := { dst := some 65, op := Op.move (Operand.tmp 9), type := _, pos := _, after := _, guard := _ }) (v := ?_) rfl (by kernel_rfl) (by kernel_rfl) (by kernel_rfl) (fun _ _ _ h => h) (Or.inl ⟨by rfl, ?_⟩) hHeld ?_
              rotate_left
              · intro wq hSw
                go_simp
                rfl
              try simp only [Act.put, List.setIfInBounds_toArray, List.set_cons_zero, List.set_cons_succ]
              refine wpAnyH_take (i := 30) (oi := { dst := some 68, op := Op.load 28 (Operand.tmp 5), type := _, pos := _, after := _, guard := _ }) rfl (by kernel_rfl) (by kernel_rfl) (by kernel_rfl) (fun _ _ _ h => h) (yl t28 (by rfl) _ rfl _ rfl (fun w1 h => h.k) lK) hHeld ?_
              try simp only [Act.put, List.setIfInBounds_toArray, List.set_cons_zero, List.set_cons_succ]
              refine wpAnyH_take (i := 31) (oi := { dst := some 69, op := Op.move (Operand.tmp 9), type := _, pos := _, after := _, guard := _ }) (v := ?_) rfl (by kernel_rfl) (by kernel_rfl) (by kernel_rfl) (fun _ _ _ h => h) (Or.inl ⟨by rfl, ?_⟩) hHeld ?_
              rotate_left
              · intro wq hSw
                go_simp
                rfl
              try simp only [Act.put, List.setIfInBounds_toArray, List.set_cons_zero, List.set_cons_succ]
              refine wpAnyH_ready (rs := [28, 32]) (by kernel_rfl) (by simp) ?_
              refine AllReadyH.cons (o := { dst := some 66, op := Op.buildSlice 31 1 #[(0, Operand.tmp 65)], type := _, pos := _, after := _, guard := _ }) rfl (fun KK hKK => ?_) ?_
              · have hKS := Lib.hid hKK
                clear hKK
                go_simp
                refine hKS.out.out _ _ (hHeld.below (grow _ _)) (fun hHeld => ?_)
                clear hKS KK
                have hx := grow w22 (Obj.cells #[.string u] 9)
                try replace p1 := p1.below hx
                try replace p8 := p8.below hx
                try replace p17 := p17.below hx
                try replace p21 := p21.below hx
                try replace p32 := p32.below hx
                have p28 := Pt.new1 w22 u
                clear hx
                generalize World.alloc w22 (Obj.cells #[.string u] 9) = v28 at *
                generalize World.heap w22 = h28 at *
                generalize h28.size = g28 at *
                try simp only [Act.put, List.setIfInBounds_toArray, List.set_cons_zero, List.set_cons_succ]
                refine wpAnyH_ready (rs := [29, 32]) (by kernel_rfl) (by simp) ?_
                refine AllReadyH.cons (o := { dst := some 67, op := Op.call { callee := Callee.value (Operand.func 12), args := #[Operand.tmp 64, Operand.tmp 66], argTypes := #[28, 31] }, type := _, pos := _, after := _, guard := _ }) rfl (fun KK hKK => ?_) ?_
                · have hKS := Lib.hid hKK
                  clear hKK
                  go_simp
                  refine (ku _ _ hHeld p28).mono ?_
                  rintro e w29 ⟨rfl, hx⟩
                  go_wp2_with fail
                  try replace p1 := p1.below hx
                  try replace p8 := p8.below hx
                  try replace p17 := p17.below hx
                  try replace p21 := p21.below hx
                  try replace p28 := p28.below hx
                  try replace p32 := p32.below hx
                  refine hKS.out.out _ _ (hHeld.below hx) (fun hHeld => ?_)
                  clear hKS KK hx
                  try simp only [Act.put, List.setIfInBounds_toArray, List.set_cons_zero, List.set_cons_succ]
                  refine wpAnyH_ready (rs := [32]) (by kernel_rfl) (by simp) ?_
                  refine AllReadyH.cons (o := { dst := some 70, op := Op.buildSlice 31 1 #[(0, Operand.tmp 69)], type := _, pos := _, after := _, guard := _ }) rfl (fun KK hKK => ?_) AllReadyH.nil
                  have hKS := Lib.hid hKK
                  clear hKK
                  go_simp
                  refine hKS.out.out _ _ (hHeld.below (grow _ _)) (fun hHeld => ?_)
                  clear hKS KK
                  have hx := grow w29 (Obj.cells #[.string u] 9)
                  try replace p1 := p1.below hx
                  try replace p8 := p8.below hx
                  try replace p17 := p17.below hx
                  try replace p21 := p21.below hx
                  try replace p28 := p28.below hx
                  have p32 := Pt.new1 w29 u
                  clear hx
                  generalize World.alloc w29 (Obj.cells #[.string u] 9) = v32 at *
                  generalize World.heap w29 = h32 at *
                  generalize h32.size = g32 at *
                  try simp only [Act.put, List.setIfInBounds_toArray, List.set_cons_zero, List.set_cons_succ]
                  refine wpAnyH_ready (rs := [33]) (by kernel_rfl) (by simp) ?_
                  refine AllReadyH.cons (o := { dst := some 71, op := Op.call { callee := Callee.value (Operand.func 13), args := #[Operand.tmp 68, Operand.tmp 70], argTypes := #[28, 31] }, type := _, pos := _, after := _, guard := _ }) rfl (fun KK hKK => ?_) AllReadyH.nil
                  have hKS := Lib.hid hKK
                  clear hKK
                  go_simp
                  refine (ru _ _ p32).mono ?_
                  rintro e w33 ⟨rfl, hx⟩
                  go_wp2_with fail
                  try replace p1 := p1.below hx
                  try replace p8 := p8.below hx
                  try replace p17 := p17.below hx
                  try replace p21 := p21.below hx
                  try replace p28 := p28.below hx
                  try replace p32 := p32.below hx
                  refine hKS.out.out _ _ (hHeld.below hx) (fun hHeld => ?_)
                  clear hKS KK hx
                  try simp only [Act.put, List.setIfInBounds_toArray, List.set_cons_zero, List.set_cons_succ]
                  refine wpAnyH_take (i := 34) (oi := { dst := some 72, op := Op.binOp BinOp.eql 24 (Operand.tmp 67) (Operand.tmp 71) 24, type := _, pos := _, after := _, guard := _ }) (v := .bool true) rfl (by kernel_rfl) (by kernel_rfl) (by kernel_rfl) (fun _ _ _ h => h) (Or.inl ⟨by rfl, fun wq hSw => exec_same G lG wq _ _ _ rfl rfl _ rfl⟩) hHeld ?_
                  try simp only [Act.put, List.setIfInBounds_toArray, List.set_cons_zero, List.set_cons_succ]
                  refine wpAnyH_take (i := 35) (oi := { dst := some 73, op := Op.pick (Operand.tmp 63) (Operand.tmp 72) (Operand.const (Value.bool false)), type := _, pos := _, after := _, guard := _ }) (v := ?_) rfl (by kernel_rfl) (by kernel_rfl) (by kernel_rfl) (fun _ _ _ h => h) (Or.inl ⟨by rfl, ?_⟩) hHeld ?_
                  rotate_left
                  · intro wq hSw
                    go_simp
                    rfl
                  try simp only [Act.put, List.setIfInBounds_toArray, List.set_cons_zero, List.set_cons_succ]
                  refine wpAnyH_take (i := 36) (oi := { dst := some 6, op := Op.assign (Operand.tmp 73), type := _, pos := _, after := _, guard := _ }) (v := ?_) rfl (by kernel_rfl) (by kernel_rfl) (by kernel_rfl) (fun _ _ _ h => h) (Or.inl ⟨by rfl, ?_⟩) hHeld ?_
                  rotate_left
                  · intro wq hSw
                    go_simp
                    rfl
                  try simp only [Act.put, List.setIfInBounds_toArray, List.set_cons_zero, List.set_cons_succ]
                  refine wpAnyH_done (by kernel_rfl) ?_ _
                  go_wp2_with fail
                  go_ret
                  exact ⟨rfl, hHeld.b⟩
                refine AllReadyH.cons (o := { dst := some 70, op := Op.buildSlice 31 1 #[(0, Operand.tmp 69)], type := _, pos := _, after := _, guard := _ }) rfl (fun KK hKK => ?_) AllReadyH.nil
                · have hKS := Lib.hid hKK
                  clear hKK
                  go_simp
                  refine hKS.out.out _ _ (hHeld.below (grow _ _)) (fun hHeld => ?_)
                  clear hKS KK
                  have hx := grow v28 (Obj.cells #[.string u] 9)
                  try replace p1 := p1.below hx
                  try replace p8 := p8.below hx
                  try replace p17 := p17.below hx
                  try replace p21 := p21.below hx
                  try replace p28 := p28.below hx
                  have p32 := Pt.new1 v28 u
                  clear hx
                  generalize World.alloc v28 (Obj.cells #[.string u] 9) = v32 at *
                  generalize World.heap v28 = h32 at *
                  generalize h32.size = g32 at *
                  try simp only [Act.put, List.setIfInBounds_toArray, List.set_cons_zero, List.set_cons_succ]
                  refine wpAnyH_ready (rs := [29]) (by kernel_rfl) (by simp) ?_
                  refine AllReadyH.cons (o := { dst := some 67, op := Op.call { callee := Callee.value (Operand.func 12), args := #[Operand.tmp 64, Operand.tmp 66], argTypes := #[28, 31] }, type := _, pos := _, after := _, guard := _ }) rfl (fun KK hKK => ?_) AllReadyH.nil
                  have hKS := Lib.hid hKK
                  clear hKK
                  go_simp
                  refine (ku _ _ hHeld p28).mono ?_
                  rintro e w29 ⟨rfl, hx⟩
                  go_wp2_with fail
                  try replace p1 := p1.below hx
                  try replace p8 := p8.below hx
                  try replace p17 := p17.below hx
                  try replace p21 := p21.below hx
                  try replace p28 := p28.below hx
                  try replace p32 := p32.below hx
                  refine hKS.out.out _ _ (hHeld.below hx) (fun hHeld => ?_)
                  clear hKS KK hx
                  try simp only [Act.put, List.setIfInBounds_toArray, List.set_cons_zero, List.set_cons_succ]
                  refine wpAnyH_ready (rs := [33]) (by kernel_rfl) (by simp) ?_
                  refine AllReadyH.cons (o := { dst := some 71, op := Op.call { callee := Callee.value (Operand.func 13), args := #[Operand.tmp 68, Operand.tmp 70], argTypes := #[28, 31] }, type := _, pos := _, after := _, guard := _ }) rfl (fun KK hKK => ?_) AllReadyH.nil
                  have hKS := Lib.hid hKK
                  clear hKK
                  go_simp
                  refine (ru _ _ p32).mono ?_
                  rintro e w33 ⟨rfl, hx⟩
                  go_wp2_with fail
                  try replace p1 := p1.below hx
                  try replace p8 := p8.below hx
                  try replace p17 := p17.below hx
                  try replace p21 := p21.below hx
                  try replace p28 := p28.below hx
                  try replace p32 := p32.below hx
                  refine hKS.out.out _ _ (hHeld.below hx) (fun hHeld => ?_)
                  clear hKS KK hx
                  try simp only [Act.put, List.setIfInBounds_toArray, List.set_cons_zero, List.set_cons_succ]
                  refine wpAnyH_take (i := 34) (oi := { dst := some 72, op := Op.binOp BinOp.eql 24 (Operand.tmp 67) (Operand.tmp 71) 24, type := _, pos := _, after := _, guard := _ }) (v := .bool true) rfl (by kernel_rfl) (by kernel_rfl) (by kernel_rfl) (fun _ _ _ h => h) (Or.inl ⟨by rfl, fun wq hSw => exec_same G lG wq _ _ _ rfl rfl _ rfl⟩) hHeld ?_
                  try simp only [Act.put, List.setIfInBounds_toArray, List.set_cons_zero, List.set_cons_succ]
                  refine wpAnyH_take (i := 35) (oi := { dst := some 73, op := Op.pick (Operand.tmp 63) (Operand.tmp 72) (Operand.const (Value.bool false)), type := _, pos := _, after := _, guard := _ }) (v := ?_) rfl (by kernel_rfl) (by kernel_rfl) (by kernel_rfl) (fun _ _ _ h => h) (Or.inl ⟨by rfl, ?_⟩) hHeld ?_
                  rotate_left
                  · intro wq hSw
                    go_simp
                    rfl
                  try simp only [Act.put, List.setIfInBounds_toArray, List.set_cons_zero, List.set_cons_succ]
                  refine wpAnyH_take (i := 36) (oi := { dst := some 6, op := Op.assign (Operand.tmp 73), type := _, pos := _, after := _, guard := _ }) (v := ?_) rfl (by kernel_rfl) (by kernel_rfl) (by kernel_rfl) (fun _ _ _ h => h) (Or.inl ⟨by rfl, ?_⟩) hHeld ?_
                  rotate_left
                  · intro wq hSw
                    go_simp
                    rfl
                  try simp only [Act.put, List.setIfInBounds_toArray, List.set_cons_zero, List.set_cons_succ]
                  refine wpAnyH_done (by kernel_rfl) ?_ _
                  go_wp2_with fail
                  go_ret
                  exact ⟨rfl, hHeld.b⟩
              refine AllReadyH.cons (o := { dst := some 70, op := Op.buildSlice 31 1 #[(0, Operand.tmp 69)], type := _, pos := _, after := _, guard := _ }) rfl (fun KK hKK => ?_) AllReadyH.nil
              · have hKS := Lib.hid hKK
                clear hKK
                go_simp
                refine hKS.out.out _ _ (hHeld.below (grow _ _)) (fun hHeld => ?_)
                clear hKS KK
                have hx := grow w22 (Obj.cells #[.string u] 9)
                try replace p1 := p1.below hx
                try replace p8 := p8.below hx
                try replace p17 := p17.below hx
                try replace p21 := p21.below hx
                try replace p28 := p28.below hx
                have p32 := Pt.new1 w22 u
                clear hx
                generalize World.alloc w22 (Obj.cells #[.string u] 9) = v32 at *
                generalize World.heap w22 = h32 at *
                generalize h32.size = g32 at *
                try simp only [Act.put, List.setIfInBounds_toArray, List.set_cons_zero, List.set_cons_succ]
                refine wpAnyH_ready (rs := [28]) (by kernel_rfl) (by simp) ?_
                refine AllReadyH.cons (o := { dst := some 66, op := Op.buildSlice 31 1 #[(0, Operand.tmp 65)], type := _, pos := _, after := _, guard := _ }) rfl (fun KK hKK => ?_) AllReadyH.nil
                have hKS := Lib.hid hKK
                clear hKK
                go_simp
                refine hKS.out.out _ _ (hHeld.below (grow _ _)) (fun hHeld => ?_)
                clear hKS KK
                have hx := grow v32 (Obj.cells #[.string u] 9)
                try replace p1 := p1.below hx
                try replace p8 := p8.below hx
                try replace p17 := p17.below hx
                try replace p21 := p21.below hx
                try replace p32 := p32.below hx
                have p28 := Pt.new1 v32 u
                clear hx
                generalize World.alloc v32 (Obj.cells #[.string u] 9) = v28 at *
                generalize World.heap v32 = h28 at *
                generalize h28.size = g28 at *
                try simp only [Act.put, List.setIfInBounds_toArray, List.set_cons_zero, List.set_cons_succ]
                refine wpAnyH_ready (rs := [29]) (by kernel_rfl) (by simp) ?_
                refine AllReadyH.cons (o := { dst := some 67, op := Op.call { callee := Callee.value (Operand.func 12), args := #[Operand.tmp 64, Operand.tmp 66], argTypes := #[28, 31] }, type := _, pos := _, after := _, guard := _ }) rfl (fun KK hKK => ?_) AllReadyH.nil
                have hKS := Lib.hid hKK
                clear hKK
                go_simp
                refine (ku _ _ hHeld p28).mono ?_
                rintro e w29 ⟨rfl, hx⟩
                go_wp2_with fail
                try replace p1 := p1.below hx
                try replace p8 := p8.below hx
                try replace p17 := p17.below hx
                try replace p21 := p21.below hx
                try replace p28 := p28.below hx
                try replace p32 := p32.below hx
                refine hKS.out.out _ _ (hHeld.below hx) (fun hHeld => ?_)
                clear hKS KK hx
                try simp only [Act.put, List.setIfInBounds_toArray, List.set_cons_zero, List.set_cons_succ]
                refine wpAnyH_ready (rs := [33]) (by kernel_rfl) (by simp) ?_
                refine AllReadyH.cons (o := { dst := some 71, op := Op.call { callee := Callee.value (Operand.func 13), args := #[Operand.tmp 68, Operand.tmp 70], argTypes := #[28, 31] }, type := _, pos := _, after := _, guard := _ }) rfl (fun KK hKK => ?_) AllReadyH.nil
                have hKS := Lib.hid hKK
                clear hKK
                go_simp
                refine (ru _ _ p32).mono ?_
                rintro e w33 ⟨rfl, hx⟩
                go_wp2_with fail
                try replace p1 := p1.below hx
                try replace p8 := p8.below hx
                try replace p17 := p17.below hx
                try replace p21 := p21.below hx
                try replace p28 := p28.below hx
                try replace p32 := p32.below hx
                refine hKS.out.out _ _ (hHeld.below hx) (fun hHeld => ?_)
                clear hKS KK hx
                try simp only [Act.put, List.setIfInBounds_toArray, List.set_cons_zero, List.set_cons_succ]
                refine wpAnyH_take (i := 34) (oi := { dst := some 72, op := Op.binOp BinOp.eql 24 (Operand.tmp 67) (Operand.tmp 71) 24, type := _, pos := _, after := _, guard := _ }) (v := .bool true) rfl (by kernel_rfl) (by kernel_rfl) (by kernel_rfl) (fun _ _ _ h => h) (Or.inl ⟨by rfl, fun wq hSw => exec_same G lG wq _ _ _ rfl rfl _ rfl⟩) hHeld ?_
                try simp only [Act.put, List.setIfInBounds_toArray, List.set_cons_zero, List.set_cons_succ]
                refine wpAnyH_take (i := 35) (oi := { dst := some 73, op := Op.pick (Operand.tmp 63) (Operand.tmp 72) (Operand.const (Value.bool false)), type := _, pos := _, after := _, guard := _ }) (v := ?_) rfl (by kernel_rfl) (by kernel_rfl) (by kernel_rfl) (fun _ _ _ h => h) (Or.inl ⟨by rfl, ?_⟩) hHeld ?_
                rotate_left
                · intro wq hSw
                  go_simp
                  rfl
                try simp only [Act.put, List.setIfInBounds_toArray, List.set_cons_zero, List.set_cons_succ]
                refine wpAnyH_take (i := 36) (oi := { dst := some 6, op := Op.assign (Operand.tmp 73), type := _, pos := _, after := _, guard := _ }) (v := ?_) rfl (by kernel_rfl) (by kernel_rfl) (by kernel_rfl) (fun _ _ _ h => h) (Or.inl ⟨by rfl, ?_⟩) hHeld ?_
                rotate_left
                · intro wq hSw
                  go_simp
                  rfl
                try simp only [Act.put, List.setIfInBounds_toArray, List.set_cons_zero, List.set_cons_succ]
                refine wpAnyH_done (by kernel_rfl) ?_ _
                go_wp2_with fail
                go_ret
                exact ⟨rfl, hHeld.b⟩
            refine AllReadyH.cons (o := { dst := some 59, op := Op.buildSlice 31 1 #[(0, Operand.tmp 58)], type := _, pos := _, after := _, guard := _ }) rfl (fun KK hKK => ?_) AllReadyH.nil
            · have hKS := Lib.hid hKK
              clear hKK
              go_simp
              refine hKS.out.out _ _ (hHeld.below (grow _ _)) (fun hHeld => ?_)
              clear hKS KK
              have hx := grow v17 (Obj.cells #[.string b] 9)
              try replace p1 := p1.below hx
              try replace p8 := p8.below hx
              try replace p17 := p17.below hx
              try replace p28 := p28.below hx
              try replace p32 := p32.below hx
              have p21 := Pt.new1 v17 b
              clear hx
              generalize World.alloc v17 (Obj.cells #[.string b] 9) = v21 at *
              generalize World.heap v17 = h21 at *
              generalize h21.size = g21 at *
              try simp only [Act.put, List.setIfInBounds_toArray, List.set_cons_zero, List.set_cons_succ]
              refine wpAnyH_ready (rs := [18]) (by kernel_rfl) (by simp) ?_
              refine AllReadyH.cons (o := { dst := some 56, op := Op.call { callee := Callee.value (Operand.func 12), args := #[Operand.tmp 53, Operand.tmp 55], argTypes := #[28, 31] }, type := _, pos := _, after := _, guard := _ }) rfl (fun KK hKK => ?_) AllReadyH.nil
              have hKS := Lib.hid hKK
              clear hKK
              go_simp
              refine (kb _ _ hHeld p17).mono ?_
              rintro e w18 ⟨rfl, hx⟩
              go_wp2_with fail
              try replace p1 := p1.below hx
              try replace p8 := p8.below hx
              try replace p17 := p17.below hx
              try replace p21 := p21.below hx
              try replace p28 := p28.below hx
              try replace p32 := p32.below hx
              refine hKS.out.out _ _ (hHeld.below hx) (fun hHeld => ?_)
              clear hKS KK hx
              try simp only [Act.put, List.setIfInBounds_toArray, List.set_cons_zero, List.set_cons_succ]
              refine wpAnyH_ready (rs := [22]) (by kernel_rfl) (by simp) ?_
              refine AllReadyH.cons (o := { dst := some 60, op := Op.call { callee := Callee.value (Operand.func 13), args := #[Operand.tmp 57, Operand.tmp 59], argTypes := #[28, 31] }, type := _, pos := _, after := _, guard := _ }) rfl (fun KK hKK => ?_) AllReadyH.nil
              have hKS := Lib.hid hKK
              clear hKK
              go_simp
              refine (rb _ _ p21).mono ?_
              rintro e w22 ⟨rfl, hx⟩
              go_wp2_with fail
              try replace p1 := p1.below hx
              try replace p8 := p8.below hx
              try replace p17 := p17.below hx
              try replace p21 := p21.below hx
              try replace p28 := p28.below hx
              try replace p32 := p32.below hx
              refine hKS.out.out _ _ (hHeld.below hx) (fun hHeld => ?_)
              clear hKS KK hx
              try simp only [Act.put, List.setIfInBounds_toArray, List.set_cons_zero, List.set_cons_succ]
              refine wpAnyH_take (i := 23) (oi := { dst := some 61, op := Op.binOp BinOp.eql 24 (Operand.tmp 56) (Operand.tmp 60) 24, type := _, pos := _, after := _, guard := _ }) (v := .bool true) rfl (by kernel_rfl) (by kernel_rfl) (by kernel_rfl) (fun _ _ _ h => h) (Or.inl ⟨by rfl, fun wq hSw => exec_same F lF wq _ _ _ rfl rfl _ rfl⟩) hHeld ?_
              try simp only [Act.put, List.setIfInBounds_toArray, List.set_cons_zero, List.set_cons_succ]
              refine wpAnyH_take (i := 24) (oi := { dst := some 62, op := Op.pick (Operand.tmp 52) (Operand.tmp 61) (Operand.const (Value.bool false)), type := _, pos := _, after := _, guard := _ }) (v := ?_) rfl (by kernel_rfl) (by kernel_rfl) (by kernel_rfl) (fun _ _ _ h => h) (Or.inl ⟨by rfl, ?_⟩) hHeld ?_
              rotate_left
              · intro wq hSw
                go_simp
                rfl
              try simp only [Act.put, List.setIfInBounds_toArray, List.set_cons_zero, List.set_cons_succ]
              refine wpAnyH_take (i := 25) (oi := { dst := some 63, op := Op.move (Operand.tmp 62), type := _, pos := _, after := _, guard := _ }) (v := ?_) rfl (by kernel_rfl) (by kernel_rfl) (by kernel_rfl) (fun _ _ _ h => h) (Or.inl ⟨by rfl, ?_⟩) hHeld ?_
              rotate_left
              · intro wq hSw
                go_simp
                rfl
              try simp only [Act.put, List.setIfInBounds_toArray, List.set_cons_zero, List.set_cons_succ]
              refine wpAnyH_take (i := 26) (oi := { dst := some 64, op := Op.load 28 (Operand.tmp 5), type := _, pos := _, after := _, guard := _ }) rfl (by kernel_rfl) (by kernel_rfl) (by kernel_rfl) (fun _ _ _ h => h) (yl t28 (by rfl) _ rfl _ rfl (fun w1 h => h.k) lK) hHeld ?_
              try simp only [Act.put, List.setIfInBounds_toArray, List.set_cons_zero, List.set_cons_succ]
              refine wpAnyH_take (i := 27) (oi := { dst := some 65, op := Op.move (Operand.tmp 9), type := _, pos := _, after := _, guard := _ }) (v := ?_) rfl (by kernel_rfl) (by kernel_rfl) (by kernel_rfl) (fun _ _ _ h => h) (Or.inl ⟨by rfl, ?_⟩) hHeld ?_
              rotate_left
              · intro wq hSw
                go_simp
                rfl
              try simp only [Act.put, List.setIfInBounds_toArray, List.set_cons_zero, List.set_cons_succ]
              refine wpAnyH_take (i := 30) (oi := { dst := some 68, op := Op.load 28 (Operand.tmp 5), type := _, pos := _, after := _, guard := _ }) rfl (by kernel_rfl) (by kernel_rfl) (by kernel_rfl) (fun _ _ _ h => h) (yl t28 (by rfl) _ rfl _ rfl (fun w1 h => h.k) lK) hHeld ?_
              try simp only [Act.put, List.setIfInBounds_toArray, List.set_cons_zero, List.set_cons_succ]
              refine wpAnyH_take (i := 31) (oi := { dst := some 69, op := Op.move (Operand.tmp 9), type := _, pos := _, after := _, guard := _ }) (v := ?_) rfl (by kernel_rfl) (by kernel_rfl) (by kernel_rfl) (fun _ _ _ h => h) (Or.inl ⟨by rfl, ?_⟩) hHeld ?_
              rotate_left
              · intro wq hSw
                go_simp
                rfl
              try simp only [Act.put, List.setIfInBounds_toArray, List.set_cons_zero, List.set_cons_succ]
              refine wpAnyH_ready (rs := [28, 32]) (by kernel_rfl) (by simp) ?_
              refine AllReadyH.cons (o := { dst := some 66, op := Op.buildSlice 31 1 #[(0, Operand.tmp 65)], type := _, pos := _, after := _, guard := _ }) rfl (fun KK hKK => ?_) ?_
              · have hKS := Lib.hid hKK
                clear hKK
                go_simp
                refine hKS.out.out _ _ (hHeld.below (grow _ _)) (fun hHeld => ?_)
                clear hKS KK
                have hx := grow w22 (Obj.cells #[.string u] 9)
                try replace p1 := p1.below hx
                try replace p8 := p8.below hx
                try replace p17 := p17.below hx
                try replace p21 := p21.below hx
                try replace p32 := p32.below hx
                have p28 := Pt.new1 w22 u
                clear hx
                generalize World.alloc w22 (Obj.cells #[.string u] 9) = v28 at *
                generalize World.heap w22 = h28 at *
                generalize h28.size = g28 at *
                try simp only [Act.put, List.setIfInBounds_toArray, List.set_cons_zero, List.set_cons_succ]
                refine wpAnyH_ready (rs := [29, 32]) (by kernel_rfl) (by simp) ?_
                refine AllReadyH.cons (o := { dst := some 67, op := Op.call { callee := Callee.value (Operand.func 12), args := #[Operand.tmp 64, Operand.tmp 66], argTypes := #[28, 31] }, type := _, pos := _, after := _, guard := _ }) rfl (fun KK hKK => ?_) ?_
                · have hKS := Lib.hid hKK
                  clear hKK
                  go_simp
                  refine (ku _ _ hHeld p28).mono ?_
                  rintro e w29 ⟨rfl, hx⟩
                  go_wp2_with fail
                  try replace p1 := p1.below hx
                  try replace p8 := p8.below hx
                  try replace p17 := p17.below hx
                  try replace p21 := p21.below hx
                  try replace p28 := p28.below hx
                  try replace p32 := p32.below hx
                  refine hKS.out.out _ _ (hHeld.below hx) (fun hHeld => ?_)
                  clear hKS KK hx
                  try simp only [Act.put, List.setIfInBounds_toArray, List.set_cons_zero, List.set_cons_succ]
                  refine wpAnyH_ready (rs := [32]) (by kernel_rfl) (by simp) ?_
                  refine AllReadyH.cons (o := { dst := some 70, op := Op.buildSlice 31 1 #[(0, Operand.tmp 69)], type := _, pos := _, after := _, guard := _ }) rfl (fun KK hKK => ?_) AllReadyH.nil
                  have hKS := Lib.hid hKK
                  clear hKK
                  go_simp
                  refine hKS.out.out _ _ (hHeld.below (grow _ _)) (fun hHeld => ?_)
                  clear hKS KK
                  have hx := grow w29 (Obj.cells #[.string u] 9)
                  try replace p1 := p1.below hx
                  try replace p8 := p8.below hx
                  try replace p17 := p17.below hx
                  try replace p21 := p21.below hx
                  try replace p28 := p28.below hx
                  have p32 := Pt.new1 w29 u
                  clear hx
                  generalize World.alloc w29 (Obj.cells #[.string u] 9) = v32 at *
                  generalize World.heap w29 = h32 at *
                  generalize h32.size = g32 at *
                  try simp only [Act.put, List.setIfInBounds_toArray, List.set_cons_zero, List.set_cons_succ]
                  refine wpAnyH_ready (rs := [33]) (by kernel_rfl) (by simp) ?_
                  refine AllReadyH.cons (o := { dst := some 71, op := Op.call { callee := Callee.value (Operand.func 13), args := #[Operand.tmp 68, Operand.tmp 70], argTypes := #[28, 31] }, type := _, pos := _, after := _, guard := _ }) rfl (fun KK hKK => ?_) AllReadyH.nil
                  have hKS := Lib.hid hKK
                  clear hKK
                  go_simp
                  refine (ru _ _ p32).mono ?_
                  rintro e w33 ⟨rfl, hx⟩
                  go_wp2_with fail
                  try replace p1 := p1.below hx
                  try replace p8 := p8.below hx
                  try replace p17 := p17.below hx
                  try replace p21 := p21.below hx
                  try replace p28 := p28.below hx
                  try replace p32 := p32.below hx
                  refine hKS.out.out _ _ (hHeld.below hx) (fun hHeld => ?_)
                  clear hKS KK hx
                  try simp only [Act.put, List.setIfInBounds_toArray, List.set_cons_zero, List.set_cons_succ]
                  refine wpAnyH_take (i := 34) (oi := { dst := some 72, op := Op.binOp BinOp.eql 24 (Operand.tmp 67) (Operand.tmp 71) 24, type := _, pos := _, after := _, guard := _ }) (v := .bool true) rfl (by kernel_rfl) (by kernel_rfl) (by kernel_rfl) (fun _ _ _ h => h) (Or.inl ⟨by rfl, fun wq hSw => exec_same G lG wq _ _ _ rfl rfl _ rfl⟩) hHeld ?_
                  try simp only [Act.put, List.setIfInBounds_toArray, List.set_cons_zero, List.set_cons_succ]
                  refine wpAnyH_take (i := 35) (oi := { dst := some 73, op := Op.pick (Operand.tmp 63) (Operand.tmp 72) (Operand.const (Value.bool false)), type := _, pos := _, after := _, guard := _ }) (v := ?_) rfl (by kernel_rfl) (by kernel_rfl) (by kernel_rfl) (fun _ _ _ h => h) (Or.inl ⟨by rfl, ?_⟩) hHeld ?_
                  rotate_left
                  · intro wq hSw
                    go_simp
                    rfl
                  try simp only [Act.put, List.setIfInBounds_toArray, List.set_cons_zero, List.set_cons_succ]
                  refine wpAnyH_take (i := 36) (oi := { dst := some 6, op := Op.assign (Operand.tmp 73), type := _, pos := _, after := _, guard := _ }) (v := ?_) rfl (by kernel_rfl) (by kernel_rfl) (by kernel_rfl) (fun _ _ _ h => h) (Or.inl ⟨by rfl, ?_⟩) hHeld ?_
                  rotate_left
                  · intro wq hSw
                    go_simp
                    rfl
                  try simp only [Act.put, List.setIfInBounds_toArray, List.set_cons_zero, List.set_cons_succ]
                  refine wpAnyH_done (by kernel_rfl) ?_ _
                  go_wp2_with fail
                  go_ret
                  exact ⟨rfl, hHeld.b⟩
                refine AllReadyH.cons (o := { dst := some 70, op := Op.buildSlice 31 1 #[(0, Operand.tmp 69)], type := _, pos := _, after := _, guard := _ }) rfl (fun KK hKK => ?_) AllReadyH.nil
                · have hKS := Lib.hid hKK
                  clear hKK
                  go_simp
                  refine hKS.out.out _ _ (hHeld.below (grow _ _)) (fun hHeld => ?_)
                  clear hKS KK
                  have hx := grow v28 (Obj.cells #[.string u] 9)
                  try replace p1 := p1.below hx
                  try replace p8 := p8.below hx
                  try replace p17 := p17.below hx
                  try replace p21 := p21.below hx
                  try replace p28 := p28.below hx
                  have p32 := Pt.new1 v28 u
                  clear hx
                  generalize World.alloc v28 (Obj.cells #[.string u] 9) = v32 at *
                  generalize World.heap v28 = h32 at *
                  generalize h32.size = g32 at *
                  try simp only [Act.put, List.setIfInBounds_toArray, List.set_cons_zero, List.set_cons_succ]
                  refine wpAnyH_ready (rs := [29]) (by kernel_rfl) (by simp) ?_
                  refine AllReadyH.cons (o := { dst := some 67, op := Op.call { callee := Callee.value (Operand.func 12), args := #[Operand.tmp 64, Operand.tmp 66], argTypes := #[28, 31] }, type := _, pos := _, after := _, guard := _ }) rfl (fun KK hKK => ?_) AllReadyH.nil
                  have hKS := Lib.hid hKK
                  clear hKK
                  go_simp
                  refine (ku _ _ hHeld p28).mono ?_
                  rintro e w29 ⟨rfl, hx⟩
                  go_wp2_with fail
                  try replace p1 := p1.below hx
                  try replace p8 := p8.below hx
                  try replace p17 := p17.below hx
                  try replace p21 := p21.below hx
                  try replace p28 := p28.below hx
                  try replace p32 := p32.below hx
                  refine hKS.out.out _ _ (hHeld.below hx) (fun hHeld => ?_)
                  clear hKS KK hx
                  try simp only [Act.put, List.setIfInBounds_toArray, List.set_cons_zero, List.set_cons_succ]
                  refine wpAnyH_ready (rs := [33]) (by kernel_rfl) (by simp) ?_
                  refine AllReadyH.cons (o := { dst := some 71, op := Op.call { callee := Callee.value (Operand.func 13), args := #[Operand.tmp 68, Operand.tmp 70], argTypes := #[28, 31] }, type := _, pos := _, after := _, guard := _ }) rfl (fun KK hKK => ?_) AllReadyH.nil
                  have hKS := Lib.hid hKK
                  clear hKK
                  go_simp
                  refine (ru _ _ p32).mono ?_
                  rintro e w33 ⟨rfl, hx⟩
                  go_wp2_with fail
                  try replace p1 := p1.below hx
                  try replace p8 := p8.below hx
                  try replace p17 := p17.below hx
                  try replace p21 := p21.below hx
                  try replace p28 := p28.below hx
                  try replace p32 := p32.below hx
                  refine hKS.out.out _ _ (hHeld.below hx) (fun hHeld => ?_)
                  clear hKS KK hx
                  try simp only [Act.put, List.setIfInBounds_toArray, List.set_cons_zero, List.set_cons_succ]
                  refine wpAnyH_take (i := 34) (oi := { dst := some 72, op := Op.binOp BinOp.eql 24 (Operand.tmp 67) (Operand.tmp 71) 24, type := _, pos := _, after := _, guard := _ }) (v := .bool true) rfl (by kernel_rfl) (by kernel_rfl) (by kernel_rfl) (fun _ _ _ h => h) (Or.inl ⟨by rfl, fun wq hSw => exec_same G lG wq _ _ _ rfl rfl _ rfl⟩) hHeld ?_
                  try simp only [Act.put, List.setIfInBounds_toArray, List.set_cons_zero, List.set_cons_succ]
                  refine wpAnyH_take (i := 35) (oi := { dst := some 73, op := Op.pick (Operand.tmp 63) (Operand.tmp 72) (Operand.const (Value.bool false)), type := _, pos := _, after := _, guard := _ }) (v := ?_) rfl (by kernel_rfl) (by kernel_rfl) (by kernel_rfl) (fun _ _ _ h => h) (Or.inl ⟨by rfl, ?_⟩) hHeld ?_
                  rotate_left
                  · intro wq hSw
                    go_simp
                    rfl
                  try simp only [Act.put, List.setIfInBounds_toArray, List.set_cons_zero, List.set_cons_succ]
                  refine wpAnyH_take (i := 36) (oi := { dst := some 6, op := Op.assign (Operand.tmp 73), type := _, pos := _, after := _, guard := _ }) (v := ?_) rfl (by kernel_rfl) (by kernel_rfl) (by kernel_rfl) (fun _ _ _ h => h) (Or.inl ⟨by rfl, ?_⟩) hHeld ?_
                  rotate_left
                  · intro wq hSw
                    go_simp
                    rfl
                  try simp only [Act.put, List.setIfInBounds_toArray, List.set_cons_zero, List.set_cons_succ]
                  refine wpAnyH_done (by kernel_rfl) ?_ _
                  go_wp2_with fail
                  go_ret
                  exact ⟨rfl, hHeld.b⟩
              refine AllReadyH.cons (o := { dst := some 70, op := Op.buildSlice 31 1 #[(0, Operand.tmp 69)], type := _, pos := _, after := _, guard := _ }) rfl (fun KK hKK => ?_) AllReadyH.nil
              · have hKS := Lib.hid hKK
                clear hKK
                go_simp
                refine hKS.out.out _ _ (hHeld.below (grow _ _)) (fun hHeld => ?_)
                clear hKS KK
                have hx := grow w22 (Obj.cells #[.string u] 9)
                try replace p1 := p1.below hx
                try replace p8 := p8.below hx
                try replace p17 := p17.below hx
                try replace p21 := p21.below hx
                try replace p28 := p28.below hx
                have p32 := Pt.new1 w22 u
                clear hx
                generalize World.alloc w22 (Obj.cells #[.string u] 9) = v32 at *
                generalize World.heap w22 = h32 at *
                generalize h32.size = g32 at *
                try simp only [Act.put, List.setIfInBounds_toArray, List.set_cons_zero, List.set_cons_succ]
                refine wpAnyH_ready (rs := [28]) (by kernel_rfl) (by simp) ?_
                refine AllReadyH.cons (o := { dst := some 66, op := Op.buildSlice 31 1 #[(0, Operand.tmp 65)], type := _, pos := _, after := _, guard := _ }) rfl (fun KK hKK => ?_) AllReadyH.nil
                have hKS := Lib.hid hKK
                clear hKK
                go_simp
                refine hKS.out.out _ _ (hHeld.below (grow _ _)) (fun hHeld => ?_)
                clear hKS KK
                have hx := grow v32 (Obj.cells #[.string u] 9)
                try replace p1 := p1.below hx
                try replace p8 := p8.below hx
                try replace p17 := p17.below hx
                try replace p21 := p21.below hx
                try replace p32 := p32.below hx
                have p28 := Pt.new1 v32 u
                clear hx
                generalize World.alloc v32 (Obj.cells #[.string u] 9) = v28 at *
                generalize World.heap v32 = h28 at *
                generalize h28.size = g28 at *
                try simp only [Act.put, List.setIfInBounds_toArray, List.set_cons_zero, List.set_cons_succ]
                refine wpAnyH_ready (rs := [29]) (by kernel_rfl) (by simp) ?_
                refine AllReadyH.cons (o := { dst := some 67, op := Op.call { callee := Callee.value (Operand.func 12), args := #[Operand.tmp 64, Operand.tmp 66], argTypes := #[28, 31] }, type := _, pos := _, after := _, guard := _ }) rfl (fun KK hKK => ?_) AllReadyH.nil
                have hKS := Lib.hid hKK
                clear hKK
                go_simp
                refine (ku _ _ hHeld p28).mono ?_
                rintro e w29 ⟨rfl, hx⟩
                go_wp2_with fail
                try replace p1 := p1.below hx
                try replace p8 := p8.below hx
                try replace p17 := p17.below hx
                try replace p21 := p21.below hx
                try replace p28 := p28.below hx
                try replace p32 := p32.below hx
                refine hKS.out.out _ _ (hHeld.below hx) (fun hHeld => ?_)
                clear hKS KK hx
                try simp only [Act.put, List.setIfInBounds_toArray, List.set_cons_zero, List.set_cons_succ]
                refine wpAnyH_ready (rs := [33]) (by kernel_rfl) (by simp) ?_
                refine AllReadyH.cons (o := { dst := some 71, op := Op.call { callee := Callee.value (Operand.func 13), args := #[Operand.tmp 68, Operand.tmp 70], argTypes := #[28, 31] }, type := _, pos := _, after := _, guard := _ }) rfl (fun KK hKK => ?_) AllReadyH.nil
                have hKS := Lib.hid hKK
                clear hKK
                go_simp
                refine (ru _ _ p32).mono ?_
                rintro e w33 ⟨rfl, hx⟩
                go_wp2_with fail
                try replace p1 := p1.below hx
                try replace p8 := p8.below hx
                try replace p17 := p17.below hx
                try replace p21 := p21.below hx
                try replace p28 := p28.below hx
                try replace p32 := p32.below hx
                refine hKS.out.out _ _ (hHeld.below hx) (fun hHeld => ?_)
                clear hKS KK hx
                try simp only [Act.put, List.setIfInBounds_toArray, List.set_cons_zero, List.set_cons_succ]
                refine wpAnyH_take (i := 34) (oi := { dst := some 72, op := Op.binOp BinOp.eql 24 (Operand.tmp 67) (Operand.tmp 71) 24, type := _, pos := _, after := _, guard := _ }) (v := .bool true) rfl (by kernel_rfl) (by kernel_rfl) (by kernel_rfl) (fun _ _ _ h => h) (Or.inl ⟨by rfl, fun wq hSw => exec_same G lG wq _ _ _ rfl rfl _ rfl⟩) hHeld ?_
                try simp only [Act.put, List.setIfInBounds_toArray, List.set_cons_zero, List.set_cons_succ]
                refine wpAnyH_take (i := 35) (oi := { dst := some 73, op := Op.pick (Operand.tmp 63) (Operand.tmp 72) (Operand.const (Value.bool false)), type := _, pos := _, after := _, guard := _ }) (v := ?_) rfl (by kernel_rfl) (by kernel_rfl) (by kernel_rfl) (fun _ _ _ h => h) (Or.inl ⟨by rfl, ?_⟩) hHeld ?_
                rotate_left
                · intro wq hSw
                  go_simp
                  rfl
                try simp only [Act.put, List.setIfInBounds_toArray, List.set_cons_zero, List.set_cons_succ]
                refine wpAnyH_take (i := 36) (oi := { dst := some 6, op := Op.assign (Operand.tmp 73), type := _, pos := _, after := _, guard := _ }) (v := ?_) rfl (by kernel_rfl) (by kernel_rfl) (by kernel_rfl) (fun _ _ _ h => h) (Or.inl ⟨by rfl, ?_⟩) hHeld ?_
                rotate_left
                · intro wq hSw
                  go_simp
                  rfl
                try simp only [Act.put, List.setIfInBounds_toArray, List.set_cons_zero, List.set_cons_succ]
                refine wpAnyH_done (by kernel_rfl) ?_ _
                go_wp2_with fail
                go_ret
                exact ⟨rfl, hHeld.b⟩
          refine AllReadyH.cons (o := { dst := some 59, op := Op.buildSlice 31 1 #[(0, Operand.tmp 58)], type := _, pos := _, after := _, guard := _ }) rfl (fun KK hKK => ?_) AllReadyH.nil
          · have hKS := Lib.hid hKK
            clear hKK
            go_simp
            refine hKS.out.out _ _ (hHeld.below (grow _ _)) (fun hHeld => ?_)
            clear hKS KK
            have hx := grow w11 (Obj.cells #[.string b] 9)
            try replace p1 := p1.below hx
            try replace p8 := p8.below hx
            try replace p17 := p17.below hx
            try replace p28 := p28.below hx
            try replace p32 := p32.below hx
            have p21 := Pt.new1 w11 b
            clear hx
            generalize World.alloc w11 (Obj.cells #[.string b] 9) = v21 at *
            generalize World.heap w11 = h21 at *
            generalize h21.size = g21 at *
            try simp only [Act.put, List.setIfInBounds_toArray, List.set_cons_zero, List.set_cons_succ]
            refine wpAnyH_ready (rs := [17]) (by kernel_rfl) (by simp) ?_
            refine AllReadyH.cons (o := { dst := some 55, op := Op.buildSlice 31 1 #[(0, Operand.tmp 54)], type := _, pos := _, after := _, guard := _ }) rfl (fun KK hKK => ?_) AllReadyH.nil
            have hKS := Lib.hid hKK
            clear hKK
            go_simp
            refine hKS.out.out _ _ (hHeld.below (grow _ _)) (fun hHeld => ?_)
            clear hKS KK
            have hx := grow v21 (Obj.cells #[.string b] 9)
            try replace p1 := p1.below hx
            try replace p8 := p8.below hx
            try replace p21 := p21.below hx
            try replace p28 := p28.below hx
            try replace p32 := p32.below hx
            have p17 := Pt.new1 v21 b
            clear hx
            generalize World.alloc v21 (Obj.cells #[.string b] 9) = v17 at *
            generalize World.heap v21 = h17 at *
            generalize h17.size = g17 at *
            try simp only [Act.put, List.setIfInBounds_toArray, List.set_cons_zero, List.set_cons_succ]
            refine wpAnyH_ready (rs := [18]) (by kernel_rfl) (by simp) ?_
            refine AllReadyH.cons (o := { dst := some 56, op := Op.call { callee := Callee.value (Operand.func 12), args := #[Operand.tmp 53, Operand.tmp 55], argTypes := #[28, 31] }, type := _, pos := _, after := _, guard := _ }) rfl (fun KK hKK => ?_) AllReadyH.nil
            have hKS := Lib.hid hKK
            clear hKK
            go_simp
            refine (kb _ _ hHeld p17).mono ?_
            rintro e w18 ⟨rfl, hx⟩
            go_wp2_with fail
            try replace p1 := p1.below hx
            try replace p8 := p8.below hx
            try replace p17 := p17.below hx
            try replace p21 := p21.below hx
            try replace p28 := p28.below hx
            try replace p32 := p32.below hx
            refine hKS.out.out _ _ (hHeld.below hx) (fun hHeld => ?_)
            clear hKS KK hx
            try simp only [Act.put, List.setIfInBounds_toArray, List.set_cons_zero, List.set_cons_succ]
            refine wpAnyH_ready (rs := [22]) (by kernel_rfl) (by simp) ?_
            refine AllReadyH.cons (o := { dst := some 60, op := Op.call { callee := Callee.value (Operand.func 13), args := #[Operand.tmp 57, Operand.tmp 59], argTypes := #[28, 31] }, type := _, pos := _, after := _, guard := _ }) rfl (fun KK hKK => ?_) AllReadyH.nil
            have hKS := Lib.hid hKK
            clear hKK
            go_simp
            refine (rb _ _ p21).mono ?_
            rintro e w22 ⟨rfl, hx⟩
            go_wp2_with fail
            try replace p1 := p1.below hx
            try replace p8 := p8.below hx
            try replace p17 := p17.below hx
            try replace p21 := p21.below hx
            try replace p28 := p28.below hx
            try replace p32 := p32.below hx
            refine hKS.out.out _ _ (hHeld.below hx) (fun hHeld => ?_)
            clear hKS KK hx
            try simp only [Act.put, List.setIfInBounds_toArray, List.set_cons_zero, List.set_cons_succ]
            refine wpAnyH_take (i := 23) (oi := { dst := some 61, op := Op.binOp BinOp.eql 24 (Operand.tmp 56) (Operand.tmp 60) 24, type := _, pos := _, after := _, guard := _ }) (v := .bool true) rfl (by kernel_rfl) (by kernel_rfl) (by kernel_rfl) (fun _ _ _ h => h) (Or.inl ⟨by rfl, fun wq hSw => exec_same F lF wq _ _ _ rfl rfl _ rfl⟩) hHeld ?_
            try simp only [Act.put, List.setIfInBounds_toArray, List.set_cons_zero, List.set_cons_succ]
            refine wpAnyH_take (i := 24) (oi := { dst := some 62, op := Op.pick (Operand.tmp 52) (Operand.tmp 61) (Operand.const (Value.bool false)), type := _, pos := _, after := _, guard := _ }) (v := ?_) rfl (by kernel_rfl) (by kernel_rfl) (by kernel_rfl) (fun _ _ _ h => h) (Or.inl ⟨by rfl, ?_⟩) hHeld ?_
            rotate_left
            · intro wq hSw
              go_simp
              rfl
            try simp only [Act.put, List.setIfInBounds_toArray, List.set_cons_zero, List.set_cons_succ]
            refine wpAnyH_take (i := 25) (oi := { dst := some 63, op := Op.move (Operand.tmp 62), type := _, pos := _, after := _, guard := _ }) (v := ?_) rfl (by kernel_rfl) (by kernel_rfl) (by kernel_rfl) (fun _ _ _ h => h) (Or.inl ⟨by rfl, ?_⟩) hHeld ?_
            rotate_left
            · intro wq hSw
              go_simp
              rfl
            try simp only [Act.put, List.setIfInBounds_toArray, List.set_cons_zero, List.set_cons_succ]
            refine wpAnyH_take (i := 26) (oi := { dst := some 64, op := Op.load 28 (Operand.tmp 5), type := _, pos := _, after := _, guard := _ }) rfl (by kernel_rfl) (by kernel_rfl) (by kernel_rfl) (fun _ _ _ h => h) (yl t28 (by rfl) _ rfl _ rfl (fun w1 h => h.k) lK) hHeld ?_
            try simp only [Act.put, List.setIfInBounds_toArray, List.set_cons_zero, List.set_cons_succ]
            refine wpAnyH_take (i := 27) (oi := { dst := some 65, op := Op.move (Operand.tmp 9), type := _, pos := _, after := _, guard := _ }) (v := ?_) rfl (by kernel_rfl) (by kernel_rfl) (by kernel_rfl) (fun _ _ _ h => h) (Or.inl ⟨by rfl, ?_⟩) hHeld ?_
            rotate_left
            · intro wq hSw
              go_simp
              rfl
            try simp only [Act.put, List.setIfInBounds_toArray, List.set_cons_zero, List.set_cons_succ]
            refine wpAnyH_take (i := 30) (oi := { dst := some 68, op := Op.load 28 (Operand.tmp 5), type := _, pos := _, after := _, guard := _ }) rfl (by kernel_rfl) (by kernel_rfl) (by kernel_rfl) (fun _ _ _ h => h) (yl t28 (by rfl) _ rfl _ rfl (fun w1 h => h.k) lK) hHeld ?_
            try simp only [Act.put, List.setIfInBounds_toArray, List.set_cons_zero, List.set_cons_succ]
            refine wpAnyH_take (i := 31) (oi := { dst := some 69, op := Op.move (Operand.tmp 9), type := _, pos := _, after := _, guard := _ }) (v := ?_) rfl (by kernel_rfl) (by kernel_rfl) (by kernel_rfl) (fun _ _ _ h => h) (Or.inl ⟨by rfl, ?_⟩) hHeld ?_
            rotate_left
            · intro wq hSw
              go_simp
              rfl
            try simp only [Act.put, List.setIfInBounds_toArray, List.set_cons_zero, List.set_cons_succ]
            refine wpAnyH_ready (rs := [28, 32]) (by kernel_rfl) (by simp) ?_
            refine AllReadyH.cons (o := { dst := some 66, op := Op.buildSlice 31 1 #[(0, Operand.tmp 65)], type := _, pos := _, after := _, guard := _ }) rfl (fun KK hKK => ?_) ?_
            · have hKS := Lib.hid hKK
              clear hKK
              go_simp
              refine hKS.out.out _ _ (hHeld.below (grow _ _)) (fun hHeld => ?_)
              clear hKS KK
              have hx := grow w22 (Obj.cells #[.string u] 9)
              try replace p1 := p1.below hx
              try replace p8 := p8.below hx
              try replace p17 := p17.below hx
              try replace p21 := p21.below hx
              try replace p32 := p32.below hx
              have p28 := Pt.new1 w22 u
              clear hx
              generalize World.alloc w22 (Obj.cells #[.string u] 9) = v28 at *
              generalize World.heap w22 = h28 at *
              generalize h28.size = g28 at *
              try simp only [Act.put, List.setIfInBounds_toArray, List.set_cons_zero, List.set_cons_succ]
              refine wpAnyH_ready (rs := [29, 32]) (by kernel_rfl) (by simp) ?_
              refine AllReadyH.cons (o := { dst := some 67, op := Op.call { callee := Callee.value (Operand.func 12), args := #[Operand.tmp 64, Operand.tmp 66], argTypes := #[28, 31] }, type := _, pos := _, after := _, guard := _ }) rfl (fun KK hKK => ?_) ?_
              · have hKS := Lib.hid hKK
                clear hKK
                go_simp
                refine (ku _ _ hHeld p28).mono ?_
                rintro e w29 ⟨rfl, hx⟩
                go_wp2_with fail
                try replace p1 := p1.below hx
                try replace p8 := p8.below hx
                try replace p17 := p17.below hx
                try replace p21 := p21.below hx
                try replace p28 := p28.below hx
                try replace p32 := p32.below hx
                refine hKS.out.out _ _ (hHeld.below hx) (fun hHeld => ?_)
                clear hKS KK hx
                try simp only [Act.put, List.setIfInBounds_toArray, List.set_cons_zero, List.set_cons_succ]
                refine wpAnyH_ready (rs := [32]) (by kernel_rfl) (by simp) ?_
                refine AllReadyH.cons (o := { dst := some 70, op := Op.buildSlice 31 1 #[(0, Operand.tmp 69)], type := _, pos := _, after := _, guard := _ }) rfl (fun KK hKK => ?_) AllReadyH.nil
                have hKS := Lib.hid hKK
                clear hKK
                go_simp
                refine hKS.out.out _ _ (hHeld.below (grow _ _)) (fun hHeld => ?_)
                clear hKS KK
                have hx := grow w29 (Obj.cells #[.string u] 9)
                try replace p1 := p1.below hx
                try replace p8 := p8.below hx
                try replace p17 := p17.below hx
                try replace p21 := p21.below hx
                try replace p28 := p28.below hx
                have p32 := Pt.new1 w29 u
                clear hx
                generalize World.alloc w29 (Obj.cells #[.string u] 9) = v32 at *
                generalize World.heap w29 = h32 at *
                generalize h32.size = g32 at *
                try simp only [Act.put, List.setIfInBounds_toArray, List.set_cons_zero, List.set_cons_succ]
                refine wpAnyH_ready (rs := [33]) (by kernel_rfl) (by simp) ?_
                refine AllReadyH.cons (o := { dst := some 71, op := Op.call { callee := Callee.value (Operand.func 13), args := #[Operand.tmp 68, Operand.tmp 70], argTypes := #[28, 31] }, type := _, pos := _, after := _, guard := _ }) rfl (fun KK hKK => ?_) AllReadyH.nil
                have hKS := Lib.hid hKK
                clear hKK
                go_simp
                refine (ru _ _ p32).mono ?_
                rintro e w33 ⟨rfl, hx⟩
                go_wp2_with fail
                try replace p1 := p1.below hx
                try replace p8 := p8.below hx
                try replace p17 := p17.below hx
                try replace p21 := p21.below hx
                try replace p28 := p28.below hx
                try replace p32 := p32.below hx
                refine hKS.out.out _ _ (hHeld.below hx) (fun hHeld => ?_)
                clear hKS KK hx
                try simp only [Act.put, List.setIfInBounds_toArray, List.set_cons_zero, List.set_cons_succ]
                refine wpAnyH_take (i := 34) (oi := { dst := some 72, op := Op.binOp BinOp.eql 24 (Operand.tmp 67) (Operand.tmp 71) 24, type := _, pos := _, after := _, guard := _ }) (v := .bool true) rfl (by kernel_rfl) (by kernel_rfl) (by kernel_rfl) (fun _ _ _ h => h) (Or.inl ⟨by rfl, fun wq hSw => exec_same G lG wq _ _ _ rfl rfl _ rfl⟩) hHeld ?_
                try simp only [Act.put, List.setIfInBounds_toArray, List.set_cons_zero, List.set_cons_succ]
                refine wpAnyH_take (i := 35) (oi := { dst := some 73, op := Op.pick (Operand.tmp 63) (Operand.tmp 72) (Operand.const (Value.bool false)), type := _, pos := _, after := _, guard := _ }) (v := ?_) rfl (by kernel_rfl) (by kernel_rfl) (by kernel_rfl) (fun _ _ _ h => h) (Or.inl ⟨by rfl, ?_⟩) hHeld ?_
                rotate_left
                · intro wq hSw
                  go_simp
                  rfl
                try simp only [Act.put, List.setIfInBounds_toArray, List.set_cons_zero, List.set_cons_succ]
                refine wpAnyH_take (i := 36) (oi := { dst := some 6, op := Op.assign (Operand.tmp 73), type := _, pos := _, after := _, guard := _ }) (v := ?_) rfl (by kernel_rfl) (by kernel_rfl) (by kernel_rfl) (fun _ _ _ h => h) (Or.inl ⟨by rfl, ?_⟩) hHeld ?_
                rotate_left
                · intro wq hSw
                  go_simp
                  rfl
                try simp only [Act.put, List.setIfInBounds_toArray, List.set_cons_zero, List.set_cons_succ]
                refine wpAnyH_done (by kernel_rfl) ?_ _
                go_wp2_with fail
                go_ret
                exact ⟨rfl, hHeld.b⟩
              refine AllReadyH.cons (o := { dst := some 70, op := Op.buildSlice 31 1 #[(0, Operand.tmp 69)], type := _, pos := _, after := _, guard := _ }) rfl (fun KK hKK => ?_) AllReadyH.nil
              · have hKS := Lib.hid hKK
                clear hKK
                go_simp
                refine hKS.out.out _ _ (hHeld.below (grow _ _)) (fun hHeld => ?_)
                clear hKS KK
                have hx := grow v28 (Obj.cells #[.string u] 9)
                try replace p1 := p1.below hx
                try replace p8 := p8.below hx
                try replace p17 := p17.below hx
                try replace p21 := p21.below hx
                try replace p28 := p28.below hx
                have p32 := Pt.new1 v28 u
                clear hx
                generalize World.alloc v28 (Obj.cells #[.string u] 9) = v32 at *
                generalize World.heap v28 = h32 at *
                generalize h32.size = g32 at *
                try simp only [Act.put, List.setIfInBounds_toArray, List.set_cons_zero, List.set_cons_succ]
                refine wpAnyH_ready (rs := [29]) (by kernel_rfl) (by simp) ?_
                refine AllReadyH.cons (o := { dst := some 67, op := Op.call { callee := Callee.value (Operand.func 12), args := #[Operand.tmp 64, Operand.tmp 66], argTypes := #[28, 31] }, type := _, pos := _, after := _, guard := _ }) rfl (fun KK hKK => ?_) AllReadyH.nil
                have hKS := Lib.hid hKK
                clear hKK
                go_simp
                refine (ku _ _ hHeld p28).mono ?_
                rintro e w29 ⟨rfl, hx⟩
                go_wp2_with fail
                try replace p1 := p1.below hx
                try replace p8 := p8.below hx
                try replace p17 := p17.below hx
                try replace p21 := p21.below hx
                try replace p28 := p28.below hx
                try replace p32 := p32.below hx
                refine hKS.out.out _ _ (hHeld.below hx) (fun hHeld => ?_)
                clear hKS KK hx
                try simp only [Act.put, List.setIfInBounds_toArray, List.set_cons_zero, List.set_cons_succ]
                refine wpAnyH_ready (rs := [33]) (by kernel_rfl) (by simp) ?_
                refine AllReadyH.cons (o := { dst := some 71, op := Op.call { callee := Callee.value (Operand.func 13), args := #[Operand.tmp 68, Operand.tmp 70], argTypes := #[28, 31] }, type := _, pos := _, after := _, guard := _ }) rfl (fun KK hKK => ?_) AllReadyH.nil
                have hKS := Lib.hid hKK
                clear hKK
                go_simp
                refine (ru _ _ p32).mono ?_
                rintro e w33 ⟨rfl, hx⟩
                go_wp2_with fail
                try replace p1 := p1.below hx
                try replace p8 := p8.below hx
                try replace p17 := p17.below hx
                try replace p21 := p21.below hx
                try replace p28 := p28.below hx
                try replace p32 := p32.below hx
                refine hKS.out.out _ _ (hHeld.below hx) (fun hHeld => ?_)
                clear hKS KK hx
                try simp only [Act.put, List.setIfInBounds_toArray, List.set_cons_zero, List.set_cons_succ]
                refine wpAnyH_take (i := 34) (oi := { dst := some 72, op := Op.binOp BinOp.eql 24 (Operand.tmp 67) (Operand.tmp 71) 24, type := _, pos := _, after := _, guard := _ }) (v := .bool true) rfl (by kernel_rfl) (by kernel_rfl) (by kernel_rfl) (fun _ _ _ h => h) (Or.inl ⟨by rfl, fun wq hSw => exec_same G lG wq _ _ _ rfl rfl _ rfl⟩) hHeld ?_
                try simp only [Act.put, List.setIfInBounds_toArray, List.set_cons_zero, List.set_cons_succ]
                refine wpAnyH_take (i := 35) (oi := { dst := some 73, op := Op.pick (Operand.tmp 63) (Operand.tmp 72) (Operand.const (Value.bool false)), type := _, pos := _, after := _, guard := _ }) (v := ?_) rfl (by kernel_rfl) (by kernel_rfl) (by kernel_rfl) (fun _ _ _ h => h) (Or.inl ⟨by rfl, ?_⟩) hHeld ?_
                rotate_left
                · intro wq hSw
                  go_simp
                  rfl
                try simp only [Act.put, List.setIfInBounds_toArray, List.set_cons_zero, List.set_cons_succ]
                refine wpAnyH_take (i := 36) (oi := { dst := some 6, op := Op.assign (Operand.tmp 73), type := _, pos := _, after := _, guard := _ }) (v := ?_) rfl (by kernel_rfl) (by kernel_rfl) (by kernel_rfl) (fun _ _ _ h => h) (Or.inl ⟨by rfl, ?_⟩) hHeld ?_
                rotate_left
                · intro wq hSw
                  go_simp
                  rfl
                try simp only [Act.put, List.setIfInBounds_toArray, List.set_cons_zero, List.set_cons_succ]
                refine wpAnyH_done (by kernel_rfl) ?_ _
                go_wp2_with fail
                go_ret
                exact ⟨rfl, hHeld.b⟩
            refine AllReadyH.cons (o := { dst := some 70, op := Op.buildSlice 31 1 #[(0, Operand.tmp 69)], type := _, pos := _, after := _, guard := _ }) rfl (fun KK hKK => ?_) AllReadyH.nil
            · have hKS := Lib.hid hKK
              clear hKK
              go_simp
              refine hKS.out.out _ _ (hHeld.below (grow _ _)) (fun hHeld => ?_)
              clear hKS KK
              have hx := grow w22 (Obj.cells #[.string u] 9)
              try replace p1 := p1.below hx
              try replace p8 := p8.below hx
              try replace p17 := p17.below hx
              try replace p21 := p21.below hx
              try replace p28 := p28.below hx
              have p32 := Pt.new1 w22 u
              clear hx
              generalize World.alloc w22 (Obj.cells #[.string u] 9) = v32 at *
              generalize World.heap w22 = h32 at *
              generalize h32.size = g32 at *
              try simp only [Act.put, List.setIfInBounds_toArray, List.set_cons_zero, List.set_cons_succ]
              refine wpAnyH_ready (rs := [28]) (by kernel_rfl) (by simp) ?_
              refine AllReadyH.cons (o := { dst := some 66, op := Op.buildSlice 31 1 #[(0, Operand.tmp 65)], type := _, pos := _, after := _, guard := _ }) rfl (fun KK hKK => ?_) AllReadyH.nil
              have hKS := Lib.hid hKK
              clear hKK
              go_simp
              refine hKS.out.out _ _ (hHeld.below (grow _ _)) (fun hHeld => ?_)
              clear hKS KK
              have hx := grow v32 (Obj.cells #[.string u] 9)
              try replace p1 := p1.below hx
              try replace p8 := p8.below hx
              try replace p17 := p17.below hx
              try replace p21 := p21.below hx
              try replace p32 := p32.below hx
              have p28 := Pt.new1 v32 u
              clear hx
              generalize World.alloc v32 (Obj.cells #[.string u] 9) = v28 at *
              generalize World.heap v32 = h28 at *
              generalize h28.size = g28 at *
              try simp only [Act.put, List.setIfInBounds_toArray, List.set_cons_zero, List.set_cons_succ]
              refine wpAnyH_ready (rs := [29]) (by kernel_rfl) (by simp) ?_
              refine AllReadyH.cons (o := { dst := some 67, op := Op.call { callee := Callee.value (Operand.func 12), args := #[Operand.tmp 64, Operand.tmp 66], argTypes := #[28, 31] }, type := _, pos := _, after := _, guard := _ }) rfl (fun KK hKK => ?_) AllReadyH.nil
              have hKS := Lib.hid hKK
              clear hKK
              go_simp
              refine (ku _ _ hHeld p28).mono ?_
              rintro e w29 ⟨rfl, hx⟩
              go_wp2_with fail
              try replace p1 := p1.below hx
              try replace p8 := p8.below hx
              try replace p17 := p17.below hx
              try replace p21 := p21.below hx
              try replace p28 := p28.below hx
              try replace p32 := p32.below hx
              refine hKS.out.out _ _ (hHeld.below hx) (fun hHeld => ?_)
              clear hKS KK hx
              try simp only [Act.put, List.setIfInBounds_toArray, List.set_cons_zero, List.set_cons_succ]
              refine wpAnyH_ready (rs := [33]) (by kernel_rfl) (by simp) ?_
              refine AllReadyH.cons (o := { dst := some 71, op := Op.call { callee := Callee.value (Operand.func 13), args := #[Operand.tmp 68, Operand.tmp 70], argTypes := #[28, 31] }, type := _, pos := _, after := _, guard := _ }) rfl (fun KK hKK => ?_) AllReadyH.nil
              have hKS := Lib.hid hKK
              clear hKK
              go_simp
              refine (ru _ _ p32).mono ?_
              rintro e w33 ⟨rfl, hx⟩
              go_wp2_with fail
              try replace p1 := p1.below hx
              try replace p8 := p8.below hx
              try replace p17 := p17.below hx
              try replace p21 := p21.below hx
              try replace p28 := p28.below hx
              try replace p32 := p32.below hx
              refine hKS.out.out _ _ (hHeld.below hx) (fun hHeld => ?_)
              clear hKS KK hx
              try simp only [Act.put, List.setIfInBounds_toArray, List.set_cons_zero, List.set_cons_succ]
              refine wpAnyH_take (i := 34) (oi := { dst := some 72, op := Op.binOp BinOp.eql 24 (Operand.tmp 67) (Operand.tmp 71) 24, type := _, pos := _, after := _, guard := _ }) (v := .bool true) rfl (by kernel_rfl) (by kernel_rfl) (by kernel_rfl) (fun _ _ _ h => h) (Or.inl ⟨by rfl, fun wq hSw => exec_same G lG wq _ _ _ rfl rfl _ rfl⟩) hHeld ?_
              try simp only [Act.put, List.setIfInBounds_toArray, List.set_cons_zero, List.set_cons_succ]
              refine wpAnyH_take (i := 35) (oi := { dst := some 73, op := Op.pick (Operand.tmp 63) (Operand.tmp 72) (Operand.const (Value.bool false)), type := _, pos := _, after := _, guard := _ }) (v := ?_) rfl (by kernel_rfl) (by kernel_rfl) (by kernel_rfl) (fun _ _ _ h => h) (Or.inl ⟨by rfl, ?_⟩) hHeld ?_
              rotate_left
              · intro wq hSw
                go_simp
                rfl
              try simp only [Act.put, List.setIfInBounds_toArray, List.set_cons_zero, List.set_cons_succ]
              refine wpAnyH_take (i := 36) (oi := { dst := some 6, op := Op.assign (Operand.tmp 73), type := _, pos := _, after := _, guard := _ }) (v := ?_) rfl (by kernel_rfl) (by kernel_rfl) (by kernel_rfl) (fun _ _ _ h => h) (Or.inl ⟨by rfl, ?_⟩) hHeld ?_
              rotate_left
              · intro wq hSw
                go_simp
                rfl
              try simp only [Act.put, List.setIfInBounds_toArray, List.set_cons_zero, List.set_cons_succ]
              refine wpAnyH_done (by kernel_rfl) ?_ _
              go_wp2_with fail
              go_ret
              exact ⟨rfl, hHeld.b⟩
        · have d2 : decide ((b.size : Int) < (m : Int) + 1) = false := by simp; omega
          clear hcc
          go_wp2_with fail
          rw [← HU.out]
          refine wp_region_held_drew (S := fun w' => Kf w w' K) (by kernel_rfl) st.drew (fun hHeld => ?_)
          clear st
          generalize World.drew _ = W1 at *
          refine wpAnyH_take (i := 0) (oi := { dst := some 38, op := Op.move (Operand.tmp 8), type := _, pos := _, after := _, guard := _ }) (v := ?_) rfl (by kernel_rfl) (by kernel_rfl) (by kernel_rfl) (fun _ _ _ h => h) (Or.inl ⟨by rfl, ?_⟩) hHeld ?_
          rotate_left
          · intro wq hSw
            go_simp
            rfl
          try simp only [Act.put, List.setIfInBounds_toArray, List.set_cons_zero, List.set_cons_succ]
          refine wpAnyH_take (i := 3) (oi := { dst := some 41, op := Op.move (Operand.tmp 8), type := _, pos := _, after := _, guard := _ }) (v := ?_) rfl (by kernel_rfl) (by kernel_rfl) (by kernel_rfl) (fun _ _ _ h => h) (Or.inl ⟨by rfl, ?_⟩) hHeld ?_
          rotate_left
          · intro wq hSw
            go_simp
            rfl
          try simp only [Act.put, List.setIfInBounds_toArray, List.set_cons_zero, List.set_cons_succ]
          refine wpAnyH_ready (rs := [1]) (by kernel_rfl) (by simp) ?_
          refine AllReadyH.cons (o := { dst := some 39, op := Op.buildSlice 31 1 #[(0, Operand.tmp 38)], type := _, pos := _, after := _, guard := _ }) rfl (fun KK hKK => ?_) AllReadyH.nil
          have hKS := Lib.hid hKK
          clear hKK
          go_simp
          refine hKS.out.out _ _ (hHeld.below (grow _ _)) (fun hHeld => ?_)
          clear hKS KK
          have hx := grow W1 (Obj.cells #[.string b] 9)
          try replace p8 := p8.below hx
          try replace p17 := p17.below hx
          try replace p21 := p21.below hx
          try replace p28 := p28.below hx
          try replace p32 := p32.below hx
          have p1 := Pt.new1 W1 b
          clear hx
          generalize World.alloc W1 (Obj.cells #[.string b] 9) = v1 at *
          generalize World.heap W1 = h1 at *
          generalize h1.size = g1 at *
          try simp only [Act.put, List.setIfInBounds_toArray, List.set_cons_zero, List.set_cons_succ]
          refine wpAnyH_ready (rs := [2]) (by kernel_rfl) (by simp) ?_
          refine AllReadyH.cons (o := { dst := some 40, op := Op.call { callee := Callee.value (Operand.func 10), args := #[Operand.tmp 39], argTypes := #[31] }, type := _, pos := _, after := _, guard := _ }) rfl (fun KK hKK => ?_) AllReadyH.nil
          have hKS := Lib.hid hKK
          clear hKK
          go_simp
          refine (sb _ _ hHeld p1).mono ?_
          rintro e w2 ⟨rfl, hx⟩
          go_wp2_with fail
          try replace p1 := p1.below hx
          try replace p8 := p8.below hx
          try replace p17 := p17.below hx
          try replace p21 := p21.below hx
          try replace p28 := p28.below hx
          try replace p32 := p32.below hx
          refine hKS.out.out _ _ (hHeld.below hx) (fun hHeld => ?_)
          clear hKS KK hx
          try simp only [Act.put, List.setIfInBounds_toArray, List.set_cons_zero, List.set_cons_succ]
          refine wpAnyH_ready (rs := [4]) (by kernel_rfl) (by simp) ?_
          refine AllReadyH.cons (o := { dst := some 42, op := Op.call { callee := Callee.value (Operand.func 11), args := #[Operand.tmp 41], argTypes := #[9] }, type := _, pos := _, after := _, guard := _ }) rfl (fun KK hKK => ?_) AllReadyH.nil
          have hKS := Lib.hid hKK
          clear hKK
          go_simp
          refine (ob _).mono ?_
          rintro e w4 ⟨rfl, hx⟩
          go_wp2_with fail
          try replace p1 := p1.below hx
          try replace p8 := p8.below hx
          try replace p17 := p17.below hx
          try replace p21 := p21.below hx
          try replace p28 := p28.below hx
          try replace p32 := p32.below hx
          refine hKS.out.out _ _ (hHeld.below hx) (fun hHeld => ?_)
          clear hKS KK hx
          try simp only [Act.put, List.setIfInBounds_toArray, List.set_cons_zero, List.set_cons_succ]
          refine wpAnyH_take (i := 5) (oi := { dst := some 43, op := Op.binOp BinOp.eql 24 (Operand.tmp 40) (Operand.tmp 42) 24, type := _, pos := _, after := _, guard := _ }) (v := .bool true) rfl (by kernel_rfl) (by kernel_rfl) (by kernel_rfl) (fun _ _ _ h => h) (Or.inl ⟨by rfl, fun wq hSw => exec_same D lD wq _ _ _ rfl rfl _ rfl⟩) hHeld ?_
          try simp only [Act.put, List.setIfInBounds_toArray, List.set_cons_zero, List.set_cons_succ]
          refine wpAnyH_take (i := 6) (oi := { dst := some 44, op := Op.move (Operand.tmp 43), type := _, pos := _, after := _, guard := _ }) (v := ?_) rfl (by kernel_rfl) (by kernel_rfl) (by kernel_rfl) (fun _ _ _ h => h) (Or.inl ⟨by rfl, ?_⟩) hHeld ?_
          rotate_left
          · intro wq hSw
            go_simp
            rfl
          try simp only [Act.put, List.setIfInBounds_toArray, List.set_cons_zero, List.set_cons_succ]
          refine wpAnyH_take (i := 7) (oi := { dst := some 45, op := Op.move (Operand.tmp 9), type := _, pos := _, after := _, guard := _ }) (v := ?_) rfl (by kernel_rfl) (by kernel_rfl) (by kernel_rfl) (fun _ _ _ h => h) (Or.inl ⟨by rfl, ?_⟩) hHeld ?_
          rotate_left
          · intro wq hSw
            go_simp
            rfl
          try simp only [Act.put, List.setIfInBounds_toArray, List.set_cons_zero, List.set_cons_succ]
          refine wpAnyH_take (i := 10) (oi := { dst := some 48, op := Op.move (Operand.tmp 9), type := _, pos := _, after := _, guard := _ }) (v := ?_) rfl (by kernel_rfl) (by kernel_rfl) (by kernel_rfl) (fun _ _ _ h => h) (Or.inl ⟨by rfl, ?_⟩) hHeld ?_
          rotate_left
          · intro wq hSw
            go_simp
            rfl
          try simp only [Act.put, List.setIfInBounds_toArray, List.set_cons_zero, List.set_cons_succ]
          refine wpAnyH_ready (rs := [8]) (by kernel_rfl) (by simp) ?_
          refine AllReadyH.cons (o := { dst := some 46, op := Op.buildSlice 31 1 #[(0, Operand.tmp 45)], type := _, pos := _, after := _, guard := _ }) rfl (fun KK hKK => ?_) AllReadyH.nil
          have hKS := Lib.hid hKK
          clear hKK
          go_simp
          refine hKS.out.out _ _ (hHeld.below (grow _ _)) (fun hHeld => ?_)
          clear hKS KK
          have hx := grow w4 (Obj.cells #[.string u] 9)
          try replace p1 := p1.below hx
          try replace p17 := p17.below hx
          try replace p21 := p21.below hx
          try replace p28 := p28.below hx
          try replace p32 := p32.below hx
          have p8 := Pt.new1 w4 u
          clear hx
          generalize World.alloc w4 (Obj.cells #[.string u] 9) = v8 at *
          generalize World.heap w4 = h8 at *
          generalize h8.size = g8 at *
          try simp only [Act.put, List.setIfInBounds_toArray, List.set_cons_zero, List.set_cons_succ]
          refine wpAnyH_ready (rs := [9]) (by kernel_rfl) (by simp) ?_
          refine AllReadyH.cons (o := { dst := some 47, op := Op.call { callee := Callee.value (Operand.func 10), args := #[Operand.tmp 46], argTypes := #[31] }, type := _, pos := _, after := _, guard := _ }) rfl (fun KK hKK => ?_) AllReadyH.nil
          have hKS := Lib.hid hKK
          clear hKK
          go_simp
          refine (su _ _ hHeld p8).mono ?_
          rintro e w9 ⟨rfl, hx⟩
          go_wp2_with fail
          try replace p1 := p1.below hx
          try replace p8 := p8.below hx
          try replace p17 := p17.below hx
          try replace p21 := p21.below hx
          try replace p28 := p28.below hx
          try replace p32 := p32.below hx
          refine hKS.out.out _ _ (hHeld.below hx) (fun hHeld => ?_)
          clear hKS KK hx
          try simp only [Act.put, List.setIfInBounds_toArray, List.set_cons_zero, List.set_cons_succ]
          refine wpAnyH_ready (rs := [11]) (by kernel_rfl) (by simp) ?_
          refine AllReadyH.cons (o := { dst := some 49, op := Op.call { callee := Callee.value (Operand.func 11), args := #[Operand.tmp 48], argTypes := #[9] }, type := _, pos := _, after := _, guard := _ }) rfl (fun KK hKK => ?_) AllReadyH.nil
          have hKS := Lib.hid hKK
          clear hKK
          go_simp
          refine (ou _).mono ?_
          rintro e w11 ⟨rfl, hx⟩
          go_wp2_with fail
          try replace p1 := p1.below hx
          try replace p8 := p8.below hx
          try replace p17 := p17.below hx
          try replace p21 := p21.below hx
          try replace p28 := p28.below hx
          try replace p32 := p32.below hx
          refine hKS.out.out _ _ (hHeld.below hx) (fun hHeld => ?_)
          clear hKS KK hx
          try simp only [Act.put, List.setIfInBounds_toArray, List.set_cons_zero, List.set_cons_succ]
          refine wpAnyH_take (i := 12) (oi := { dst := some 50, op := Op.binOp BinOp.eql 24 (Operand.tmp 47) (Operand.tmp 49) 24, type := _, pos := _, after := _, guard := _ }) (v := .bool true) rfl (by kernel_rfl) (by kernel_rfl) (by kernel_rfl) (fun _ _ _ h => h) (Or.inl ⟨by rfl, fun wq hSw => exec_same E lE wq _ _ _ rfl rfl _ rfl⟩) hHeld ?_
          try simp only [Act.put, List.setIfInBounds_toArray, List.set_cons_zero, List.set_cons_succ]
          refine wpAnyH_take (i := 13) (oi := { dst := some 51, op := Op.pick (Operand.tmp 44) (Operand.tmp 50) (Operand.const (Value.bool false)), type := _, pos := _, after := _, guard := _ }) (v := ?_) rfl (by kernel_rfl) (by kernel_rfl) (by kernel_rfl) (fun _ _ _ h => h) (Or.inl ⟨by rfl, ?_⟩) hHeld ?_
          rotate_left
          · intro wq hSw
            go_simp
            rfl
          try simp only [Act.put, List.setIfInBounds_toArray, List.set_cons_zero, List.set_cons_succ]
          refine wpAnyH_take (i := 14) (oi := { dst := some 52, op := Op.move (Operand.tmp 51), type := _, pos := _, after := _, guard := _ }) (v := ?_) rfl (by kernel_rfl) (by kernel_rfl) (by kernel_rfl) (fun _ _ _ h => h) (Or.inl ⟨by rfl, ?_⟩) hHeld ?_
          rotate_left
          · intro wq hSw
            go_simp
            rfl
          try simp only [Act.put, List.setIfInBounds_toArray, List.set_cons_zero, List.set_cons_succ]
          refine wpAnyH_take (i := 15) (oi := { dst := some 53, op := Op.load 28 (Operand.tmp 5), type := _, pos := _, after := _, guard := _ }) rfl (by kernel_rfl) (by kernel_rfl) (by kernel_rfl) (fun _ _ _ h => h) (yl t28 (by rfl) _ rfl _ rfl (fun w1 h => h.k) lK) hHeld ?_
          try simp only [Act.put, List.setIfInBounds_toArray, List.set_cons_zero, List.set_cons_succ]
          refine wpAnyH_take (i := 16) (oi := { dst := some 54, op := Op.move (Operand.tmp 8), type := _, pos := _, after := _, guard := _ }) (v := ?_) rfl (by kernel_rfl) (by kernel_rfl) (by kernel_rfl) (fun _ _ _ h => h) (Or.inl ⟨by rfl, ?_⟩) hHeld ?_
          rotate_left
          · intro wq hSw
            go_simp
            rfl
          try simp only [Act.put, List.setIfInBounds_toArray, List.set_cons_zero, List.set_cons_succ]
          refine wpAnyH_take (i := 19) (oi := { dst := some 57, op := Op.load 28 (Operand.tmp 5), type := _, pos := _, after := _, guard := _ }) rfl (by kernel_rfl) (by kernel_rfl) (by kernel_rfl) (fun _ _ _ h => h) (yl t28 (by rfl) _ rfl _ rfl (fun w1 h => h.k) lK) hHeld ?_
          try simp only [Act.put, List.setIfInBounds_toArray, List.set_cons_zero, List.set_cons_succ]
          refine wpAnyH_take (i := 20) (oi := { dst := some 58, op := Op.move (Operand.tmp 8), type := _, pos := _, after := _, guard := _ }) (v := ?_) rfl (by kernel_rfl) (by kernel_rfl) (by kernel_rfl) (fun _ _ _ h => h) (Or.inl ⟨by rfl, ?_⟩) hHeld ?_
          rotate_left
          · intro wq hSw
            go_simp
            rfl
          try simp only [Act.put, List.setIfInBounds_toArray, List.set_cons_zero, List.set_cons_succ]
          refine wpAnyH_ready (rs := [17, 21]) (by kernel_rfl) (by simp) ?_
          refine AllReadyH.cons (o := { dst := some 55, op := Op.buildSlice 31 1 #[(0, Operand.tmp 54)], type := _, pos := _, after := _, guard := _ }) rfl (fun KK hKK => ?_) ?_
          · have hKS := Lib.hid hKK
            clear hKK
            go_simp
            refine hKS.out.out _ _ (hHeld.below (grow _ _)) (fun hHeld => ?_)
            clear hKS KK
            have hx := grow w11 (Obj.cells #[.string b] 9)
            try replace p1 := p1.below hx
            try replace p8 := p8.below hx
            try replace p21 := p21.below hx
            try replace p28 := p28.below hx
            try replace p32 := p32.below hx
            have p17 := Pt.new1 w11 b
            clear hx
            generalize World.alloc w11 (Obj.cells #[.string b] 9) = v17 at *
            generalize World.heap w11 = h17 at *
            generalize h17.size = g17 at *
            try simp only [Act.put, List.setIfInBounds_toArray, List.set_cons_zero, List.set_cons_succ]
            refine wpAnyH_ready (rs := [18, 21]) (by kernel_rfl) (by simp) ?_
            refine AllReadyH.cons (o := { dst := some 56, op := Op.call { callee := Callee.value (Operand.func 12), args := #[Operand.tmp 53, Operand.tmp 55], argTypes := #[28, 31] }, type := _, pos := _, after := _, guard := _ }) rfl (fun KK hKK => ?_) ?_
            · have hKS := Lib.hid hKK
              clear hKK
              go_simp
              refine (kb _ _ hHeld p17).mono ?_
              rintro e w18 ⟨rfl, hx⟩
              go_wp2_with fail
              try replace p1 := p1.below hx
              try replace p8 := p8.below hx
              try replace p17 := p17.below hx
              try replace p21 := p21.below hx
              try replace p28 := p28.below hx
              try replace p32 := p32.below hx
              refine hKS.out.out _ _ (hHeld.below hx) (fun hHeld => ?_)
              clear hKS KK hx
              try simp only [Act.put, List.setIfInBounds_toArray, List.set_cons_zero, List.set_cons_succ]
              refine wpAnyH_ready (rs := [21]) (by kernel_rfl) (by simp) ?_
              refine AllReadyH.cons (o := { dst := some 59, op := Op.buildSlice 31 1 #[(0, Operand.tmp 58)], type := _, pos := _, after := _, guard := _ }) rfl (fun KK hKK => ?_) AllReadyH.nil
              have hKS := Lib.hid hKK
              clear hKK
              go_simp
              refine hKS.out.out _ _ (hHeld.below (grow _ _)) (fun hHeld => ?_)
              clear hKS KK
              have hx := grow w18 (Obj.cells #[.string b] 9)
              try replace p1 := p1.below hx
              try replace p8 := p8.below hx
              try replace p17 := p17.below hx
              try replace p28 := p28.below hx
              try replace p32 := p32.below hx
              have p21 := Pt.new1 w18 b
              clear hx
              generalize World.alloc w18 (Obj.cells #[.string b] 9) = v21 at *
              generalize World.heap w18 = h21 at *
              generalize h21.size = g21 at *
              try simp only [Act.put, List.setIfInBounds_toArray, List.set_cons_zero, List.set_cons_succ]
              refine wpAnyH_ready (rs := [22]) (by kernel_rfl) (by simp) ?_
              refine AllReadyH.cons (o := { dst := some 60, op := Op.call { callee := Callee.value (Operand.func 13), args := #[Operand.tmp 57, Operand.tmp 59], argTypes := #[28, 31] }, type := _, pos := _, after := _, guard := _ }) rfl (fun KK hKK => ?_) AllReadyH.nil
              have hKS := Lib.hid hKK
              clear hKK
              go_simp
              refine (rb _ _ p21).mono ?_
              rintro e w22 ⟨rfl, hx⟩
              go_wp2_with fail
              try replace p1 := p1.below hx
              try replace p8 := p8.below hx
              try replace p17 := p17.below hx
              try replace p21 := p21.below hx
              try replace p28 := p28.below hx
              try replace p32 := p32.below hx
              refine hKS.out.out _ _ (hHeld.below hx) (fun hHeld => ?_)
              clear hKS KK hx
              try simp only [Act.put, List.setIfInBounds_toArray, List.set_cons_zero, List.set_cons_succ]
              refine wpAnyH_take (i := 23) (oi := { dst := some 61, op := Op.binOp BinOp.eql 24 (Operand.tmp 56) (Operand.tmp 60) 24, type := _, pos := _, after := _, guard := _ }) (v := .bool true) rfl (by kernel_rfl) (by kernel_rfl) (by kernel_rfl) (fun _ _ _ h => h) (Or.inl ⟨by rfl, fun wq hSw => exec_same F lF wq _ _ _ rfl rfl _ rfl⟩) hHeld ?_
              try simp only [Act.put, List.setIfInBounds_toArray, List.set_cons_zero, List.set_cons_succ]
              refine wpAnyH_take (i := 24) (oi := { dst := some 62, op := Op.pick (Operand.tmp 52) (Operand.tmp 61) (Operand.const (Value.bool false)), type := _, pos := _, after := _, guard := _ }) (v := ?_) rfl (by kernel_rfl) (by kernel_rfl) (by kernel_rfl) (fun _ _ _ h => h) (Or.inl ⟨by rfl, ?_⟩) hHeld ?_
              rotate_left
              · intro wq hSw
                go_simp
                rfl
              try simp only [Act.put, List.setIfInBounds_toArray, List.set_cons_zero, List.set_cons_succ]
              refine wpAnyH_take (i := 25) (oi := { dst := some 63, op := Op.move (Operand.tmp 62), type := _, pos := _, after := _, guard := _ }) (v := ?_) rfl (by kernel_rfl) (by kernel_rfl) (by kernel_rfl) (fun _ _ _ h => h) (Or.inl ⟨by rfl, ?_⟩) hHeld ?_
              rotate_left
              · intro wq hSw
                go_simp
                rfl
              try simp only [Act.put, List.setIfInBounds_toArray, List.set_cons_zero, List.set_cons_succ]
              refine wpAnyH_take (i := 26) (oi := { dst := some 64, op := Op.load 28 (Operand.tmp 5), type := _, pos := _, after := _, guard := _ }) rfl (by kernel_rfl) (by kernel_rfl) (by kernel_rfl) (fun _ _ _ h => h) (yl t28 (by rfl) _ rfl _ rfl (fun w1 h => h.k) lK) hHeld ?_
              try simp only [Act.put, List.setIfInBounds_toArray, List.set_cons_zero, List.set_cons_succ]
              refine wpAnyH_take (i := 27) (oi := { dst := some 65, op := Op.move (Operand.tmp 9), type := _, pos := _, after := _, guard := _ }) (v := ?_) rfl (by kernel_rfl) (by kernel_rfl) (by kernel_rfl) (fun _ _ _ h => h) (Or.inl ⟨by rfl, ?_⟩) hHeld ?_
              rotate_left
              · intro wq hSw
                go_simp
                rfl
              try simp only [Act.put, List.setIfInBounds_toArray, List.set_cons_zero, List.set_cons_succ]
              refine wpAnyH_take (i := 30) (oi := { dst := some 68, op := Op.load 28 (Operand.tmp 5), type := _, pos := _, after := _, guard := _ }) rfl (by kernel_rfl) (by kernel_rfl) (by kernel_rfl) (fun _ _ _ h => h) (yl t28 (by rfl) _ rfl _ rfl (fun w1 h => h.k) lK) hHeld ?_
              try simp only [Act.put, List.setIfInBounds_toArray, List.set_cons_zero, List.set_cons_succ]
              refine wpAnyH_take (i := 31) (oi := { dst := some 69, op := Op.move (Operand.tmp 9), type := _, pos := _, after := _, guard := _ }) (v := ?_) rfl (by kernel_rfl) (by kernel_rfl) (by kernel_rfl) (fun _ _ _ h => h) (Or.inl ⟨by rfl, ?_⟩) hHeld ?_
              rotate_left
              · intro wq hSw
                go_simp
                rfl
              try simp only [Act.put, List.setIfInBounds_toArray, List.set_cons_zero, List.set_cons_succ]
              refine wpAnyH_ready (rs := [28, 32]) (by kernel_rfl) (by simp) ?_
              refine AllReadyH.cons (o := { dst := some 66, op := Op.buildSlice 31 1 #[(0, Operand.tmp 65)], type := _, pos := _, after := _, guard := _ }) rfl (fun KK hKK => ?_) ?_
              · have hKS := Lib.hid hKK
                clear hKK
                go_simp
                refine hKS.out.out _ _ (hHeld.below (grow _ _)) (fun hHeld => ?_)
                clear hKS KK
                have hx := grow w22 (Obj.cells #[.string u] 9)
                try replace p1 := p1.below hx
                try replace p8 := p8.below hx
                try replace p17 := p17.below hx
                try replace p21 := p21.below hx
                try replace p32 := p32.below hx
                have p28 := Pt.new1 w22 u
                clear hx
                generalize World.alloc w22 (Obj.cells #[.string u] 9) = v28 at *
                generalize World.heap w22 = h28 at *
                generalize h28.size = g28 at *
                try simp only [Act.put, List.setIfInBounds_toArray, List.set_cons_zero, List.set_cons_succ]
                refine wpAnyH_ready (rs := [29, 32]) (by kernel_rfl) (by simp) ?_
                refine AllReadyH.cons (o := { dst := some 67, op := Op.call { callee := Callee.value (Operand.func 12), args := #[Operand.tmp 64, Operand.tmp 66], argTypes := #[28, 31] }, type := _, pos := _, after := _, guard := _ }) rfl (fun KK hKK => ?_) ?_
                · have hKS := Lib.hid hKK
                  clear hKK
                  go_simp
                  refine (ku _ _ hHeld p28).mono ?_
                  rintro e w29 ⟨rfl, hx⟩
                  go_wp2_with fail
                  try replace p1 := p1.below hx
                  try replace p8 := p8.below hx
                  try replace p17 := p17.below hx
                  try replace p21 := p21.below hx
                  try replace p28 := p28.below hx
                  try replace p32 := p32.below hx
                  refine hKS.out.out _ _ (hHeld.below hx) (fun hHeld => ?_)
                  clear hKS KK hx
                  try simp only [Act.put, List.setIfInBounds_toArray, List.set_cons_zero, List.set_cons_succ]
                  refine wpAnyH_ready (rs := [32]) (by kernel_rfl) (by simp) ?_
                  refine AllReadyH.cons (o := { dst := some 70, op := Op.buildSlice 31 1 #[(0, Operand.tmp 69)], type := _, pos := _, after := _, guard := _ }) rfl (fun KK hKK => ?_) AllReadyH.nil
                  have hKS := Lib.hid hKK
                  clear hKK
                  go_simp
                  refine hKS.out.out _ _ (hHeld.below (grow _ _)) (fun hHeld => ?_)
                  clear hKS KK
                  have hx := grow w29 (Obj.cells #[.string u] 9)
                  try replace p1 := p1.below hx
                  try replace p8 := p8.below hx
                  try replace p17 := p17.below hx
                  try replace p21 := p21.below hx
                  try replace p28 := p28.below hx
                  have p32 := Pt.new1 w29 u
                  clear hx
                  generalize World.alloc w29 (Obj.cells #[.string u] 9) = v32 at *
                  generalize World.heap w29 = h32 at *
                  generalize h32.size = g32 at *
                  try simp only [Act.put, List.setIfInBounds_toArray, List.set_cons_zero, List.set_cons_succ]
                  refine wpAnyH_ready (rs := [33]) (by kernel_rfl) (by simp) ?_
                  refine AllReadyH.cons (o := { dst := some 71, op := Op.call { callee := Callee.value (Operand.func 13), args := #[Operand.tmp 68, Operand.tmp 70], argTypes := #[28, 31] }, type := _, pos := _, after := _, guard := _ }) rfl (fun KK hKK => ?_) AllReadyH.nil
                  have hKS := Lib.hid hKK
                  clear hKK
                  go_simp
                  refine (ru _ _ p32).mono ?_
                  rintro e w33 ⟨rfl, hx⟩
                  go_wp2_with fail
                  try replace p1 := p1.below hx
                  try replace p8 := p8.below hx
                  try replace p17 := p17.below hx
                  try replace p21 := p21.below hx
                  try replace p28 := p28.below hx
                  try replace p32 := p32.below hx
                  refine hKS.out.out _ _ (hHeld.below hx) (fun hHeld => ?_)
                  clear hKS KK hx
                  try simp only [Act.put, List.setIfInBounds_toArray, List.set_cons_zero, List.set_cons_succ]
                  refine wpAnyH_take (i := 34) (oi := { dst := some 72, op := Op.binOp BinOp.eql 24 (Operand.tmp 67) (Operand.tmp 71) 24, type := _, pos := _, after := _, guard := _ }) (v := .bool true) rfl (by kernel_rfl) (by kernel_rfl) (by kernel_rfl) (fun _ _ _ h => h) (Or.inl ⟨by rfl, fun wq hSw => exec_same G lG wq _ _ _ rfl rfl _ rfl⟩) hHeld ?_
                  try simp only [Act.put, List.setIfInBounds_toArray, List.set_cons_zero, List.set_cons_succ]
                  refine wpAnyH_take (i := 35) (oi := { dst := some 73, op := Op.pick (Operand.tmp 63) (Operand.tmp 72) (Operand.const (Value.bool false)), type := _, pos := _, after := _, guard := _ }) (v := ?_) rfl (by kernel_rfl) (by kernel_rfl) (by kernel_rfl) (fun _ _ _ h => h) (Or.inl ⟨by rfl, ?_⟩) hHeld ?_
                  rotate_left
                  · intro wq hSw
                    go_simp
                    rfl
                  try simp only [Act.put, List.setIfInBounds_toArray, List.set_cons_zero, List.set_cons_succ]
                  refine wpAnyH_take (i := 36) (oi := { dst := some 6, op := Op.assign (Operand.tmp 73), type := _, pos := _, after := _, guard := _ }) (v := ?_) rfl (by kernel_rfl) (by kernel_rfl) (by kernel_rfl) (fun _ _ _ h => h) (Or.inl ⟨by rfl, ?_⟩) hHeld ?_
                  rotate_left
                  · intro wq hSw
                    go_simp
                    rfl
                  try simp only [Act.put, List.setIfInBounds_toArray, List.set_cons_zero, List.set_cons_succ]
                  refine wpAnyH_done (by kernel_rfl) ?_ _
                  go_wp2_with fail
                  go_ret
                  exact ⟨rfl, hHeld.b⟩
                refine AllReadyH.cons (o := { dst := some 70, op := Op.buildSlice 31 1 #[(0, Operand.tmp 69)], type := _, pos := _, after := _, guard := _ }) rfl (fun KK hKK => ?_) AllReadyH.nil
                · have hKS := Lib.hid hKK
                  clear hKK
                  go_simp
                  refine hKS.out.out _ _ (hHeld.below (grow _ _)) (fun hHeld => ?_)
                  clear hKS KK
                  have hx := grow v28 (Obj.cells #[.string u] 9)
                  try replace p1 := p1.below hx
                  try replace p8 := p8.below hx
                  try replace p17 := p17.below hx
                  try replace p21 := p21.below hx
                  try replace p28 := p28.below hx
                  have p32 := Pt.new1 v28 u
                  clear hx
                  generalize World.alloc v28 (Obj.cells #[.string u] 9) = v32 at *
                  generalize World.heap v28 = h32 at *
                  generalize h32.size = g32 at *
                  try simp only [Act.put, List.setIfInBounds_toArray, List.set_cons_zero, List.set_cons_succ]
                  refine wpAnyH_ready (rs := [29]) (by kernel_rfl) (by simp) ?_
                  refine AllReadyH.cons (o := { dst := some 67, op := Op.call { callee := Callee.value (Operand.func 12), args := #[Operand.tmp 64, Operand.tmp 66], argTypes := #[28, 31] }, type := _, pos := _, after := _, guard := _ }) rfl (fun KK hKK => ?_) AllReadyH.nil
                  have hKS := Lib.hid hKK
                  clear hKK
                  go_simp
                  refine (ku _ _ hHeld p28).mono ?_
                  rintro e w29 ⟨rfl, hx⟩
                  go_wp2_with fail
                  try replace p1 := p1.below hx
                  try replace p8 := p8.below hx
                  try replace p17 := p17.below hx
                  try replace p21 := p21.below hx
                  try replace p28 := p28.below hx
                  try replace p32 := p32.below hx
                  refine hKS.out.out _ _ (hHeld.below hx) (fun hHeld => ?_)
                  clear hKS KK hx
                  try simp only [Act.put, List.setIfInBounds_toArray, List.set_cons_zero, List.set_cons_succ]
                  refine wpAnyH_ready (rs := [33]) (by kernel_rfl) (by simp) ?_
                  refine AllReadyH.cons (o := { dst := some 71, op := Op.call { callee := Callee.value (Operand.func 13), args := #[Operand.tmp 68, Operand.tmp 70], argTypes := #[28, 31] }, type := _, pos := _, after := _, guard := _ }) rfl (fun KK hKK => ?_) AllReadyH.nil
                  have hKS := Lib.hid hKK
                  clear hKK
                  go_simp
                  refine (ru _ _ p32).mono ?_
                  rintro e w33 ⟨rfl, hx⟩
                  go_wp2_with fail
                  try replace p1 := p1.below hx
                  try replace p8 := p8.below hx
                  try replace p17 := p17.below hx
                  try replace p21 := p21.below hx
                  try replace p28 := p28.below hx
                  try replace p32 := p32.below hx
                  refine hKS.out.out _ _ (hHeld.below hx) (fun hHeld => ?_)
                  clear hKS KK hx
                  try simp only [Act.put, List.setIfInBounds_toArray, List.set_cons_zero, List.set_cons_succ]
                  refine wpAnyH_take (i := 34) (oi := { dst := some 72, op := Op.binOp BinOp.eql 24 (Operand.tmp 67) (Operand.tmp 71) 24, type := _, pos := _, after := _, guard := _ }) (v := .bool true) rfl (by kernel_rfl) (by kernel_rfl) (by kernel_rfl) (fun _ _ _ h => h) (Or.inl ⟨by rfl, fun wq hSw => exec_same G lG wq _ _ _ rfl rfl _ rfl⟩) hHeld ?_
                  try simp only [Act.put, List.setIfInBounds_toArray, List.set_cons_zero, List.set_cons_succ]
                  refine wpAnyH_take (i := 35) (oi := { dst := some 73, op := Op.pick (Operand.tmp 63) (Operand.tmp 72) (Operand.const (Value.bool false)), type := _, pos := _, after := _, guard := _ }) (v := ?_) rfl (by kernel_rfl) (by kernel_rfl) (by kernel_rfl) (fun _ _ _ h => h) (Or.inl ⟨by rfl, ?_⟩) hHeld ?_
                  rotate_left
                  · intro wq hSw
                    go_simp
                    rfl
                  try simp only [Act.put, List.setIfInBounds_toArray, List.set_cons_zero, List.set_cons_succ]
                  refine wpAnyH_take (i := 36) (oi := { dst := some 6, op := Op.assign (Operand.tmp 73), type := _, pos := _, after := _, guard := _ }) (v := ?_) rfl (by kernel_rfl) (by kernel_rfl) (by kernel_rfl) (fun _ _ _ h => h) (Or.inl ⟨by rfl, ?_⟩) hHeld ?_
                  rotate_left
                  · intro wq hSw
                    go_simp
                    rfl
                  try simp only [Act.put, List.setIfInBounds_toArray, List.set_cons_zero, List.set_cons_succ]
                  refine wpAnyH_done (by kernel_rfl) ?_ _
                  go_wp2_with fail
                  go_ret
                  exact ⟨rfl, hHeld.b⟩
              refine AllReadyH.cons (o := { dst := some 70, op := Op.buildSlice 31 1 #[(0, Operand.tmp 69)], type := _, pos := _, after := _, guard := _ }) rfl (fun KK hKK => ?_) AllReadyH.nil
              · have hKS := Lib.hid hKK
                clear hKK
                go_simp
                refine hKS.out.out _ _ (hHeld.below (grow _ _)) (fun hHeld => ?_)
                clear hKS KK
                have hx := grow w22 (Obj.cells #[.string u] 9)
                try replace p1 := p1.below hx
                try replace p8 := p8.below hx
                try replace p17 := p17.below hx
                try replace p21 := p21.below hx
                try replace p28 := p28.below hx
                have p32 := Pt.new1 w22 u
                clear hx
                generalize World.alloc w22 (Obj.cells #[.string u] 9) = v32 at *
                generalize World.heap w22 = h32 at *
                generalize h32.size = g32 at *
                try simp only [Act.put, List.setIfInBounds_toArray, List.set_cons_zero, List.set_cons_succ]
                refine wpAnyH_ready (rs := [28]) (by kernel_rfl) (by simp) ?_
                refine AllReadyH.cons (o := { dst := some 66, op := Op.buildSlice 31 1 #[(0, Operand.tmp 65)], type := _, pos := _, after := _, guard := _ }) rfl (fun KK hKK => ?_) AllReadyH.nil
                have hKS := Lib.hid hKK
                clear hKK
                go_simp
                refine hKS.out.out _ _ (hHeld.below (grow _ _)) (fun hHeld => ?_)
                clear hKS KK
                have hx := grow v32 (Obj.cells #[.string u] 9)
                try replace p1 := p1.below hx
                try replace p8 := p8.below hx
                try replace p17 := p17.below hx
                try replace p21 := p21.below hx
                try replace p32 := p32.below hx
                have p28 := Pt.new1 v32 u
                clear hx
                generalize World.alloc v32 (Obj.cells #[.string u] 9) = v28 at *
                generalize World.heap v32 = h28 at *
                generalize h28.size = g28 at *
                try simp only [Act.put, List.setIfInBounds_toArray, List.set_cons_zero, List.set_cons_succ]
                refine wpAnyH_ready (rs := [29]) (by kernel_rfl) (by simp) ?_
                refine AllReadyH.cons (o := { dst := some 67, op := Op.call { callee := Callee.value (Operand.func 12), args := #[Operand.tmp 64, Operand.tmp 66], argTypes := #[28, 31] }, type := _, pos := _, after := _, guard := _ }) rfl (fun KK hKK => ?_) AllReadyH.nil
                have hKS := Lib.hid hKK
                clear hKK
                go_simp
                refine (ku _ _ hHeld p28).mono ?_
                rintro e w29 ⟨rfl, hx⟩
                go_wp2_with fail
                try replace p1 := p1.below hx
                try replace p8 := p8.below hx
                try replace p17 := p17.below hx
                try replace p21 := p21.below hx
                try replace p28 := p28.below hx
                try replace p32 := p32.below hx
                refine hKS.out.out _ _ (hHeld.below hx) (fun hHeld => ?_)
                clear hKS KK hx
                try simp only [Act.put, List.setIfInBounds_toArray, List.set_cons_zero, List.set_cons_succ]
                refine wpAnyH_ready (rs := [33]) (by kernel_rfl) (by simp) ?_
                refine AllReadyH.cons (o := { dst := some 71, op := Op.call { callee := Callee.value (Operand.func 13), args := #[Operand.tmp 68, Operand.tmp 70], argTypes := #[28, 31] }, type := _, pos := _, after := _, guard := _ }) rfl (fun KK hKK => ?_) AllReadyH.nil
                have hKS := Lib.hid hKK
                clear hKK
                go_simp
                refine (ru _ _ p32).mono ?_
                rintro e w33 ⟨rfl, hx⟩
                go_wp2_with fail
                try replace p1 := p1.below hx
                try replace p8 := p8.below hx
                try replace p17 := p17.below hx
                try replace p21 := p21.below hx
                try replace p28 := p28.below hx
                try replace p32 := p32.below hx
                refine hKS.out.out _ _ (hHeld.below hx) (fun hHeld => ?_)
                clear hKS KK hx
                try simp only [Act.put, List.setIfInBounds_toArray, List.set_cons_zero, List.set_cons_succ]
                refine wpAnyH_take (i := 34) (oi := { dst := some 72, op := Op.binOp BinOp.eql 24 (Operand.tmp 67) (Operand.tmp 71) 24, type := _, pos := _, after := _, guard := _ }) (v := .bool true) rfl (by kernel_rfl) (by kernel_rfl) (by kernel_rfl) (fun _ _ _ h => h) (Or.inl ⟨by rfl, fun wq hSw => exec_same G lG wq _ _ _ rfl rfl _ rfl⟩) hHeld ?_
                try simp only [Act.put, List.setIfInBounds_toArray, List.set_cons_zero, List.set_cons_succ]
                refine wpAnyH_take (i := 35) (oi := { dst := some 73, op := Op.pick (Operand.tmp 63) (Operand.tmp 72) (Operand.const (Value.bool false)), type := _, pos := _, after := _, guard := _ }) (v := ?_) rfl (by kernel_rfl) (by kernel_rfl) (by kernel_rfl) (fun _ _ _ h => h) (Or.inl ⟨by rfl, ?_⟩) hHeld ?_
                rotate_left
                · intro wq hSw
                  go_simp
                  rfl
                try simp only [Act.put, List.setIfInBounds_toArray, List.set_cons_zero, List.set_cons_succ]
                refine wpAnyH_take (i := 36) (oi := { dst := some 6, op := Op.assign (Operand.tmp 73), type := _, pos := _, after := _, guard := _ }) (v := ?_) rfl (by kernel_rfl) (by kernel_rfl) (by kernel_rfl) (fun _ _ _ h => h) (Or.inl ⟨by rfl, ?_⟩) hHeld ?_
                rotate_left
                · intro wq hSw
                  go_simp
                  rfl
                try simp only [Act.put, List.setIfInBounds_toArray, List.set_cons_zero, List.set_cons_succ]
                refine wpAnyH_done (by kernel_rfl) ?_ _
                go_wp2_with fail
                go_ret
                exact ⟨rfl, hHeld.b⟩
            refine AllReadyH.cons (o := { dst := some 59, op := Op.buildSlice 31 1 #[(0, Operand.tmp 58)], type := _, pos := _, after := _, guard := _ }) rfl (fun KK hKK => ?_) AllReadyH.nil
            · have hKS := Lib.hid hKK
              clear hKK
              go_simp
              refine hKS.out.out _ _ (hHeld.below (grow _ _)) (fun hHeld => ?_)
              clear hKS KK
              have hx := grow v17 (Obj.cells #[.string b] 9)
              try replace p1 := p1.below hx
              try replace p8 := p8.below hx
              try replace p17 := p17.below hx
              try replace p28 := p28.below hx
              try replace p32 := p32.below hx
              have p21 := Pt.new1 v17 b
              clear hx
              generalize World.alloc v17 (Obj.cells #[.string b] 9) = v21 at *
              generalize World.heap v17 = h21 at *
              generalize h21.size = g21 at *
              try simp only [Act.put, List.setIfInBounds_toArray, List.set_cons_zero, List.set_cons_succ]
              refine wpAnyH_ready (rs := [18]) (by kernel_rfl) (by simp) ?_
              refine AllReadyH.cons (o := { dst := some 56, op := Op.call { callee := Callee.value (Operand.func 12), args := #[Operand.tmp 53, Operand.tmp 55], argTypes := #[28, 31] }, type := _, pos := _, after := _, guard := _ }) rfl (fun KK hKK => ?_) AllReadyH.nil
              have hKS := Lib.hid hKK
              clear hKK
              go_simp
              refine (kb _ _ hHeld p17).mono ?_
              rintro e w18 ⟨rfl, hx⟩
              go_wp2_with fail
              try replace p1 := p1.below hx
              try replace p8 := p8.below hx
              try replace p17 := p17.below hx
              try replace p21 := p21.below hx
              try replace p28 := p28.below hx
              try replace p32 := p32.below hx
              refine hKS.out.out _ _ (hHeld.below hx) (fun hHeld => ?_)
              clear hKS KK hx
              try simp only [Act.put, List.setIfInBounds_toArray, List.set_cons_zero, List.set_cons_succ]
              refine wpAnyH_ready (rs := [22]) (by kernel_rfl) (by simp) ?_
              refine AllReadyH.cons (o := { dst := some 60, op := Op.call { callee := Callee.value (Operand.func 13), args := #[Operand.tmp 57, Operand.tmp 59], argTypes := #[28, 31] }, type := _, pos := _, after := _, guard := _ }) rfl (fun KK hKK => ?_) AllReadyH.nil
              have hKS := Lib.hid hKK
              clear hKK
              go_simp
              refine (rb _ _ p21).mono ?_
              rintro e w22 ⟨rfl, hx⟩
              go_wp2_with fail
              try replace p1 := p1.below hx
              try replace p8 := p8.below hx
              try replace p17 := p17.below hx
              try replace p21 := p21.below hx
              try replace p28 := p28.below hx
              try replace p32 := p32.below hx
              refine hKS.out.out _ _ (hHeld.below hx) (fun hHeld => ?_)
              clear hKS KK hx
              try simp only [Act.put, List.setIfInBounds_toArray, List.set_cons_zero, List.set_cons_succ]
              refine wpAnyH_take (i := 23) (oi := { dst := some 61, op := Op.binOp BinOp.eql 24 (Operand.tmp 56) (Operand.tmp 60) 24, type := _, pos := _, after := _, guard := _ }) (v := .bool true) rfl (by kernel_rfl) (by kernel_rfl) (by kernel_rfl) (fun _ _ _ h => h) (Or.inl ⟨by rfl, fun wq hSw => exec_same F lF wq _ _ _ rfl rfl _ rfl⟩) hHeld ?_
              try simp only [Act.put, List.setIfInBounds_toArray, List.set_cons_zero, List.set_cons_succ]
              refine wpAnyH_take (i := 24) (oi := { dst := some 62, op := Op.pick (Operand.tmp 52) (Operand.tmp 61) (Operand.const (Value.bool false)), type := _, pos := _, after := _, guard := _ }) (v := ?_) rfl (by kernel_rfl) (by kernel_rfl) (by kernel_rfl) (fun _ _ _ h => h) (Or.inl ⟨by rfl, ?_⟩) hHeld ?_
              rotate_left
              · intro wq hSw
                go_simp
                rfl
              try simp only [Act.put, List.setIfInBounds_toArray, List.set_cons_zero, List.set_cons_succ]
              refine wpAnyH_take (i := 25) (oi := { dst := some 63, op := Op.move (Operand.tmp 62), type := _, pos := _, after := _, guard := _ }) (v := ?_) rfl (by kernel_rfl) (by kernel_rfl) (by kernel_rfl) (fun _ _ _ h => h) (Or.inl ⟨by rfl, ?_⟩) hHeld ?_
              rotate_left
              · intro wq hSw
                go_simp
                rfl
              try simp only [Act.put, List.setIfInBounds_toArray, List.set_cons_zero, List.set_cons_succ]
              refine wpAnyH_take (i := 26) (oi := { dst := some 64, op := Op.load 28 (Operand.tmp 5), type := _, pos := _, after := _, guard := _ }) rfl (by kernel_rfl) (by kernel_rfl) (by kernel_rfl) (fun _ _ _ h => h) (yl t28 (by rfl) _ rfl _ rfl (fun w1 h => h.k) lK) hHeld ?_
              try simp only [Act.put, List.setIfInBounds_toArray, List.set_cons_zero, List.set_cons_succ]
              refine wpAnyH_take (i := 27) (oi := { dst := some 65, op := Op.move (Operand.tmp 9), type := _, pos := _, after := _, guard := _ }) (v := ?_) rfl (by kernel_rfl) (by kernel_rfl) (by kernel_rfl) (fun _ _ _ h => h) (Or.inl ⟨by rfl, ?_⟩) hHeld ?_
              rotate_left
              · intro wq hSw
                go_simp
                rfl
              try simp only [Act.put, List.setIfInBounds_toArray, List.set_cons_zero, List.set_cons_succ]
              refine wpAnyH_take (i := 30) (oi := { dst := some 68, op := Op.load 28 (Operand.tmp 5), type := _, pos := _, after := _, guard := _ }) rfl (by kernel_rfl) (by kernel_rfl) (by kernel_rfl) (fun _ _ _ h => h) (yl t28 (by rfl) _ rfl _ rfl (fun w1 h => h.k) lK) hHeld ?_
              try simp only [Act.put, List.setIfInBounds_toArray, List.set_cons_zero, List.set_cons_succ]
              refine wpAnyH_take (i := 31) (oi := { dst := some 69, op := Op.move (Operand.tmp 9), type := _, pos := _, after := _, guard := _ }) (v := ?_) rfl (by kernel_rfl) (by kernel_rfl) (by kernel_rfl) (fun _ _ _ h => h) (Or.inl ⟨by rfl, ?_⟩) hHeld ?_
              rotate_left
              · intro wq hSw
                go_simp
                rfl
              try simp only [Act.put, List.setIfInBounds_toArray, List.set_cons_zero, List.set_cons_succ]
              refine wpAnyH_ready (rs := [28, 32]) (by kernel_rfl) (by simp) ?_
              refine AllReadyH.cons (o := { dst := some 66, op := Op.buildSlice 31 1 #[(0, Operand.tmp 65)], type := _, pos := _, after := _, guard := _ }) rfl (fun KK hKK => ?_) ?_
              · have hKS := Lib.hid hKK
                clear hKK
                go_simp
                refine hKS.out.out _ _ (hHeld.below (grow _ _)) (fun hHeld => ?_)
                clear hKS KK
                have hx := grow w22 (Obj.cells #[.string u] 9)
                try replace p1 := p1.below hx
                try replace p8 := p8.below hx
                try replace p17 := p17.below hx
                try replace p21 := p21.below hx
                try replace p32 := p32.below hx
                have p28 := Pt.new1 w22 u
                clear hx
                generalize World.alloc w22 (Obj.cells #[.string u] 9) = v28 at *
                generalize World.heap w22 = h28 at *
                generalize h28.size = g28 at *
                try simp only [Act.put, List.setIfInBounds_toArray, List.set_cons_zero, List.set_cons_succ]
                refine wpAnyH_ready (rs := [29, 32]) (by kernel_rfl) (by simp) ?_
                refine AllReadyH.cons (o := { dst := some 67, op := Op.call { callee := Callee.value (Operand.func 12), args := #[Operand.tmp 64, Operand.tmp 66], argTypes := #[28, 31] }, type := _, pos := _, after := _, guard := _ }) rfl (fun KK hKK => ?_) ?_
                · have hKS := Lib.hid hKK
                  clear hKK
                  go_simp
                  refine (ku _ _ hHeld p28).mono ?_
                  rintro e w29 ⟨rfl, hx⟩
                  go_wp2_with fail
                  try replace p1 := p1.below hx
                  try replace p8 := p8.below hx
                  try replace p17 := p17.below hx
                  try replace p21 := p21.below hx
                  try replace p28 := p28.below hx
                  try replace p32 := p32.below hx
                  refine hKS.out.out _ _ (hHeld.below hx) (fun hHeld => ?_)
                  clear hKS KK hx
                  try simp only [Act.put, List.setIfInBounds_toArray, List.set_cons_zero, List.set_cons_succ]
                  refine wpAnyH_ready (rs := [32]) (by kernel_rfl) (by simp) ?_
                  refine AllReadyH.cons (o := { dst := some 70, op := Op.buildSlice 31 1 #[(0, Operand.tmp 69)], type := _, pos := _, after := _, guard := _ }) rfl (fun KK hKK => ?_) AllReadyH.nil
                  have hKS := Lib.hid hKK
                  clear hKK
                  go_simp
                  refine hKS.out.out _ _ (hHeld.below (grow _ _)) (fun hHeld => ?_)
                  clear hKS KK
                  have hx := grow w29 (Obj.cells #[.string u] 9)
                  try replace p1 := p1.below hx
                  try replace p8 := p8.below hx
                  try replace p17 := p17.below hx
                  try replace p21 := p21.below hx
                  try replace p28 := p28.below hx
                  have p32 := Pt.new1 w29 u
                  clear hx
                  generalize World.alloc w29 (Obj.cells #[.string u] 9) = v32 at *
                  generalize World.heap w29 = h32 at *
                  generalize h32.size = g32 at *
                  try simp only [Act.put, List.setIfInBounds_toArray, List.set_cons_zero, List.set_cons_succ]
                  refine wpAnyH_ready (rs := [33]) (by kernel_rfl) (by simp) ?_
                  refine AllReadyH.cons (o := { dst := some 71, op := Op.call { callee := Callee.value (Operand.func 13), args := #[Operand.tmp 68, Operand.tmp 70], argTypes := #[28, 31] }, type := _, pos := _, after := _, guard := _ }) rfl (fun KK hKK => ?_) AllReadyH.nil
                  have hKS := Lib.hid hKK
                  clear hKK
                  go_simp
                  refine (ru _ _ p32).mono ?_
                  rintro e w33 ⟨rfl, hx⟩
                  go_wp2_with fail
                  try replace p1 := p1.below hx
                  try replace p8 := p8.below hx
                  try replace p17 := p17.below hx
                  try replace p21 := p21.below hx
                  try replace p28 := p28.below hx
                  try replace p32 := p32.below hx
                  refine hKS.out.out _ _ (hHeld.below hx) (fun hHeld => ?_)
                  clear hKS KK hx
                  try simp only [Act.put, List.setIfInBounds_toArray, List.set_cons_zero, List.set_cons_succ]
                  refine wpAnyH_take (i := 34) (oi := { dst := some 72, op := Op.binOp BinOp.eql 24 (Operand.tmp 67) (Operand.tmp 71) 24, type := _, pos := _, after := _, guard := _ }) (v := .bool true) rfl (by kernel_rfl) (by kernel_rfl) (by kernel_rfl) (fun _ _ _ h => h) (Or.inl ⟨by rfl, fun wq hSw => exec_same G lG wq _ _ _ rfl rfl _ rfl⟩) hHeld ?_
                  try simp only [Act.put, List.setIfInBounds_toArray, List.set_cons_zero, List.set_cons_succ]
                  refine wpAnyH_take (i := 35) (oi := { dst := some 73, op := Op.pick (Operand.tmp 63) (Operand.tmp 72) (Operand.const (Value.bool false)), type := _, pos := _, after := _, guard := _ }) (v := ?_) rfl (by kernel_rfl) (by kernel_rfl) (by kernel_rfl) (fun _ _ _ h => h) (Or.inl ⟨by rfl, ?_⟩) hHeld ?_
                  rotate_left
                  · intro wq hSw
                    go_simp
                    rfl
                  try simp only [Act.put, List.setIfInBounds_toArray, List.set_cons_zero, List.set_cons_succ]
                  refine wpAnyH_take (i := 36) (oi := { dst := some 6, op := Op.assign (Operand.tmp 73), type := _, pos := _, after := _, guard := _ }) (v := ?_) rfl (by kernel_rfl) (by kernel_rfl) (by kernel_rfl) (fun _ _ _ h => h) (Or.inl ⟨by rfl, ?_⟩) hHeld ?_
                  rotate_left
                  · intro wq hSw
                    go_simp
                    rfl
                  try simp only [Act.put, List.setIfInBounds_toArray, List.set_cons_zero, List.set_cons_succ]
                  refine wpAnyH_done (by kernel_rfl) ?_ _
                  go_wp2_with fail
                  go_ret
                  exact ⟨rfl, hHeld.b⟩
                refine AllReadyH.cons (o := { dst := some 70, op := Op.buildSlice 31 1 #[(0, Operand.tmp 69)], type := _, pos := _, after := _, guard := _ }) rfl (fun KK hKK => ?_) AllReadyH.nil
                · have hKS := Lib.hid hKK
                  clear hKK
                  go_simp
                  refine hKS.out.out _ _ (hHeld.below (grow _ _)) (fun hHeld => ?_)
                  clear hKS KK
                  have hx := grow v28 (Obj.cells #[.string u] 9)
                  try replace p1 := p1.below hx
                  try replace p8 := p8.below hx
                  try replace p17 := p17.below hx
                  try replace p21 := p21.below hx
                  try replace p28 := p28.below hx
                  have p32 := Pt.new1 v28 u
                  clear hx
                  generalize World.alloc v28 (Obj.cells #[.string u] 9) = v32 at *
                  generalize World.heap v28 = h32 at *
                  generalize h32.size = g32 at *
                  try simp only [Act.put, List.setIfInBounds_toArray, List.set_cons_zero, List.set_cons_succ]
                  refine wpAnyH_ready (rs := [29]) (by kernel_rfl) (by simp) ?_
                  refine AllReadyH.cons (o := { dst := some 67, op := Op.call { callee := Callee.value (Operand.func 12), args := #[Operand.tmp 64, Operand.tmp 66], argTypes := #[28, 31] }, type := _, pos := _, after := _, guard := _ }) rfl (fun KK hKK => ?_) AllReadyH.nil
                  have hKS := Lib.hid hKK
                  clear hKK
                  go_simp
                  refine (ku _ _ hHeld p28).mono ?_
                  rintro e w29 ⟨rfl, hx⟩
                  go_wp2_with fail
                  try replace p1 := p1.below hx
                  try replace p8 := p8.below hx
                  try replace p17 := p17.below hx
                  try replace p21 := p21.below hx
                  try replace p28 := p28.below hx
                  try replace p32 := p32.below hx
                  refine hKS.out.out _ _ (hHeld.below hx) (fun hHeld => ?_)
                  clear hKS KK hx
                  try simp only [Act.put, List.setIfInBounds_toArray, List.set_cons_zero, List.set_cons_succ]
                  refine wpAnyH_ready (rs := [33]) (by kernel_rfl) (by simp) ?_
                  refine AllReadyH.cons (o := { dst := some 71, op := Op.call { callee := Callee.value (Operand.func 13), args := #[Operand.tmp 68, Operand.tmp 70], argTypes := #[28, 31] }, type := _, pos := _, after := _, guard := _ }) rfl (fun KK hKK => ?_) AllReadyH.nil
                  have hKS := Lib.hid hKK
                  clear hKK
                  go_simp
                  refine (ru _ _ p32).mono ?_
                  rintro e w33 ⟨rfl, hx⟩
                  go_wp2_with fail
                  try replace p1 := p1.below hx
                  try replace p8 := p8.below hx
                  try replace p17 := p17.below hx
                  try replace p21 := p21.below hx
                  try replace p28 := p28.below hx
                  try replace p32 := p32.below hx
                  refine hKS.out.out _ _ (hHeld.below hx) (fun hHeld => ?_)
                  clear hKS KK hx
                  try simp only [Act.put, List.setIfInBounds_toArray, List.set_cons_zero, List.set_cons_succ]
                  refine wpAnyH_take (i := 34) (oi := { dst := some 72, op := Op.binOp BinOp.eql 24 (Operand.tmp 67) (Operand.tmp 71) 24, type := _, pos := _, after := _, guard := _ }) (v := .bool true) rfl (by kernel_rfl) (by kernel_rfl) (by kernel_rfl) (fun _ _ _ h => h) (Or.inl ⟨by rfl, fun wq hSw => exec_same G lG wq _ _ _ rfl rfl _ rfl⟩) hHeld ?_
                  try simp only [Act.put, List.setIfInBounds_toArray, List.set_cons_zero, List.set_cons_succ]
                  refine wpAnyH_take (i := 35) (oi := { dst := some 73, op := Op.pick (Operand.tmp 63) (Operand.tmp 72) (Operand.const (Value.bool false)), type := _, pos := _, after := _, guard := _ }) (v := ?_) rfl (by kernel_rfl) (by kernel_rfl) (by kernel_rfl) (fun _ _ _ h => h) (Or.inl ⟨by rfl, ?_⟩) hHeld ?_
                  rotate_left
                  · intro wq hSw
                    go_simp
                    rfl
                  try simp only [Act.put, List.setIfInBounds_toArray, List.set_cons_zero, List.set_cons_succ]
                  refine wpAnyH_take (i := 36) (oi := { dst := some 6, op := Op.assign (Operand.tmp 73), type := _, pos := _, after := _, guard := _ }) (v := ?_) rfl (by kernel_rfl) (by kernel_rfl) (by kernel_rfl) (fun _ _ _ h => h) (Or.inl ⟨by rfl, ?_⟩) hHeld ?_
                  rotate_left
                  · intro wq hSw
                    go_simp
                    rfl
                  try simp only [Act.put, List.setIfInBounds_toArray, List.set_cons_zero, List.set_cons_succ]
                  refine wpAnyH_done (by kernel_rfl) ?_ _
                  go_wp2_with fail
                  go_ret
                  exact ⟨rfl, hHeld.b⟩
              refine AllReadyH.cons (o := { dst := some 70, op := Op.buildSlice 31 1 #[(0, Operand.tmp 69)], type := _, pos := _, after := _, guard := _ }) rfl (fun KK hKK => ?_) AllReadyH.nil
              · have hKS := Lib.hid hKK
                clear hKK
                go_simp
                refine hKS.out.out _ _ (hHeld.below (grow _ _)) (fun hHeld => ?_)
                clear hKS KK
                have hx := grow w22 (Obj.cells #[.string u] 9)
                try replace p1 := p1.below hx
                try replace p8 := p8.below hx
                try replace p17 := p17.below hx
                try replace p21 := p21.below hx
                try replace p28 := p28.below hx
                have p32 := Pt.new1 w22 u
                clear hx
                generalize World.alloc w22 (Obj.cells #[.string u] 9) = v32 at *
                generalize World.heap w22 = h32 at *
                generalize h32.size = g32 at *
                try simp only [Act.put, List.setIfInBounds_toArray, List.set_cons_zero, List.set_cons_succ]
                refine wpAnyH_ready (rs := [28]) (by kernel_rfl) (by simp) ?_
                refine AllReadyH.cons (o := { dst := some 66, op := Op.buildSlice 31 1 #[(0, Operand.tmp 65)], type := _, pos := _, after := _, guard := _ }) rfl (fun KK hKK => ?_) AllReadyH.nil
                have hKS := Lib.hid hKK
                clear hKK
                go_simp
                refine hKS.out.out _ _ (hHeld.below (grow _ _)) (fun hHeld => ?_)
                clear hKS KK
                have hx := grow v32 (Obj.cells #[.string u] 9)
                try replace p1 := p1.below hx
                try replace p8 := p8.below hx
                try replace p17 := p17.below hx
                try replace p21 := p21.below hx
                try replace p32 := p32.below hx
                have p28 := Pt.new1 v32 u
                clear hx
                generalize World.alloc v32 (Obj.cells #[.string u] 9) = v28 at *
                generalize World.heap v32 = h28 at *
                generalize h28.size = g28 at *
                try simp only [Act.put, List.setIfInBounds_toArray, List.set_cons_zero, List.set_cons_succ]
                refine wpAnyH_ready (rs := [29]) (by kernel_rfl) (by simp) ?_
                refine AllReadyH.cons (o := { dst := some 67, op := Op.call { callee := Callee.value (Operand.func 12), args := #[Operand.tmp 64, Operand.tmp 66], argTypes := #[28, 31] }, type := _, pos := _, after := _, guard := _ }) rfl (fun KK hKK => ?_) AllReadyH.nil
                have hKS := Lib.hid hKK
                clear hKK
                go_simp
                refine (ku _ _ hHeld p28).mono ?_
                rintro e w29 ⟨rfl, hx⟩
                go_wp2_with fail
                try replace p1 := p1.below hx
                try replace p8 := p8.below hx
                try replace p17 := p17.below hx
                try replace p21 := p21.below hx
                try replace p28 := p28.below hx
                try replace p32 := p32.below hx
                refine hKS.out.out _ _ (hHeld.below hx) (fun hHeld => ?_)
                clear hKS KK hx
                try simp only [Act.put, List.setIfInBounds_toArray, List.set_cons_zero, List.set_cons_succ]
                refine wpAnyH_ready (rs := [33]) (by kernel_rfl) (by simp) ?_
                refine AllReadyH.cons (o := { dst := some 71, op := Op.call { callee := Callee.value (Operand.func 13), args := #[Operand.tmp 68, Operand.tmp 70], argTypes := #[28, 31] }, type := _, pos := _, after := _, guard := _ }) rfl (fun KK hKK => ?_) AllReadyH.nil
                have hKS := Lib.hid hKK
                clear hKK
                go_simp
                refine (ru _ _ p32).mono ?_
                rintro e w33 ⟨rfl, hx⟩
                go_wp2_with fail
                try replace p1 := p1.below hx
                try replace p8 := p8.below hx
                try replace p17 := p17.below hx
                try replace p21 := p21.below hx
                try replace p28 := p28.below hx
                try replace p32 := p32.below hx
                refine hKS.out.out _ _ (hHeld.below hx) (fun hHeld => ?_)
                clear hKS KK hx
                try simp only [Act.put, List.setIfInBounds_toArray, List.set_cons_zero, List.set_cons_succ]
                refine wpAnyH_take (i := 34) (oi := { dst := some 72, op := Op.binOp BinOp.eql 24 (Operand.tmp 67) (Operand.tmp 71) 24, type := _, pos := _, after := _, guard := _ }) (v := .bool true) rfl (by kernel_rfl) (by kernel_rfl) (by kernel_rfl) (fun _ _ _ h => h) (Or.inl ⟨by rfl, fun wq hSw => exec_same G lG wq _ _ _ rfl rfl _ rfl⟩) hHeld ?_
                try simp only [Act.put, List.setIfInBounds_toArray, List.set_cons_zero, List.set_cons_succ]
                refine wpAnyH_take (i := 35) (oi := { dst := some 73, op := Op.pick (Operand.tmp 63) (Operand.tmp 72) (Operand.const (Value.bool false)), type := _, pos := _, after := _, guard := _ }) (v := ?_) rfl (by kernel_rfl) (by kernel_rfl) (by kernel_rfl) (fun _ _ _ h => h) (Or.inl ⟨by rfl, ?_⟩) hHeld ?_
                rotate_left
                · intro wq hSw
                  go_simp
                  rfl
                try simp only [Act.put, List.setIfInBounds_toArray, List.set_cons_zero, List.set_cons_succ]
                refine wpAnyH_take (i := 36) (oi := { dst := some 6, op := Op.assign (Operand.tmp 73), type := _, pos := _, after := _, guard := _ }) (v := ?_) rfl (by kernel_rfl) (by kernel_rfl) (by kernel_rfl) (fun _ _ _ h => h) (Or.inl ⟨by rfl, ?_⟩) hHeld ?_
                rotate_left
                · intro wq hSw
                  go_simp
                  rfl
                try simp only [Act.put, List.setIfInBounds_toArray, List.set_cons_zero, List.set_cons_succ]
                refine wpAnyH_done (by kernel_rfl) ?_ _
                go_wp2_with fail
                go_ret
                exact ⟨rfl, hHeld.b⟩
          refine AllReadyH.cons (o := { dst := some 59, op := Op.buildSlice 31 1 #[(0, Operand.tmp 58)], type := _, pos := _, after := _, guard := _ }) rfl (fun KK hKK => ?_) AllReadyH.nil
          · have hKS := Lib.hid hKK
            clear hKK
            go_simp
            refine hKS.out.out _ _ (hHeld.below (grow _ _)) (fun hHeld => ?_)
            clear hKS KK
            have hx := grow w11 (Obj.cells #[.string b] 9)
            try replace p1 := p1.below hx
            try replace p8 := p8.below hx
            try replace p17 := p17.below hx
            try replace p28 := p28.below hx
            try replace p32 := p32.below hx
            have p21 := Pt.new1 w11 b
            clear hx
            generalize World.alloc w11 (Obj.cells #[.string b] 9) = v21 at *
            generalize World.heap w11 = h21 at *
            generalize h21.size = g21 at *
            try simp only [Act.put, List.setIfInBounds_toArray, List.set_cons_zero, List.set_cons_succ]
            refine wpAnyH_ready (rs := [17]) (by kernel_rfl) (by simp) ?_
            refine AllReadyH.cons (o := { dst := some 55, op := Op.buildSlice 31 1 #[(0, Operand.tmp 54)], type := _, pos := _, after := _, guard := _ }) rfl (fun KK hKK => ?_) AllReadyH.nil
            have hKS := Lib.hid hKK
            clear hKK
            go_simp
            refine hKS.out.out _ _ (hHeld.below (grow _ _)) (fun hHeld => ?_)
            clear hKS KK
            have hx := grow v21 (Obj.cells #[.string b] 9)
            try replace p1 := p1.below hx
            try replace p8 := p8.below hx
            try replace p21 := p21.below hx
            try replace p28 := p28.below hx
            try replace p32 := p32.below hx
            have p17 := Pt.new1 v21 b
            clear hx
            generalize World.alloc v21 (Obj.cells #[.string b] 9) = v17 at *
            generalize World.heap v21 = h17 at *
            generalize h17.size = g17 at *
            try simp only [Act.put, List.setIfInBounds_toArray, List.set_cons_zero, List.set_cons_succ]
            refine wpAnyH_ready (rs := [18]) (by kernel_rfl) (by simp) ?_
            refine AllReadyH.cons (o := { dst := some 56, op := Op.call { callee := Callee.value (Operand.func 12), args := #[Operand.tmp 53, Operand.tmp 55], argTypes := #[28, 31] }, type := _, pos := _, after := _, guard := _ }) rfl (fun KK hKK => ?_) AllReadyH.nil
            have hKS := Lib.hid hKK
            clear hKK
            go_simp
            refine (kb _ _ hHeld p17).mono ?_
            rintro e w18 ⟨rfl, hx⟩
            go_wp2_with fail
            try replace p1 := p1.below hx
            try replace p8 := p8.below hx
            try replace p17 := p17.below hx
            try replace p21 := p21.below hx
            try replace p28 := p28.below hx
            try replace p32 := p32.below hx
            refine hKS.out.out _ _ (hHeld.below hx) (fun hHeld => ?_)
            clear hKS KK hx
            try simp only [Act.put, List.setIfInBounds_toArray, List.set_cons_zero, List.set_cons_succ]
            refine wpAnyH_ready (rs := [22]) (by kernel_rfl) (by simp) ?_
            refine AllReadyH.cons (o := { dst := some 60, op := Op.call { callee := Callee.value (Operand.func 13), args := #[Operand.tmp 57, Operand.tmp 59], argTypes := #[28, 31] }, type := _, pos := _, after := _, guard := _ }) rfl (fun KK hKK => ?_) AllReadyH.nil
            have hKS := Lib.hid hKK
            clear hKK
            go_simp
            refine (rb _ _ p21).mono ?_
            rintro e w22 ⟨rfl, hx⟩
            go_wp2_with fail
            try replace p1 := p1.below hx
            try replace p8 := p8.below hx
            try replace p17 := p17.below hx
            try replace p21 := p21.below hx
            try replace p28 := p28.below hx
            try replace p32 := p32.below hx
            refine hKS.out.out _ _ (hHeld.below hx) (fun hHeld => ?_)
            clear hKS KK hx
            try simp only [Act.put, List.setIfInBounds_toArray, List.set_cons_zero, List.set_cons_succ]
            refine wpAnyH_take (i := 23) (oi := { dst := some 61, op := Op.binOp BinOp.eql 24 (Operand.tmp 56) (Operand.tmp 60) 24, type := _, pos := _, after := _, guard := _ }) (v := .bool true) rfl (by kernel_rfl) (by kernel_rfl) (by kernel_rfl) (fun _ _ _ h => h) (Or.inl ⟨by rfl, fun wq hSw => exec_same F lF wq _ _ _ rfl rfl _ rfl⟩) hHeld ?_
            try simp only [Act.put, List.setIfInBounds_toArray, List.set_cons_zero, List.set_cons_succ]
            refine wpAnyH_take (i := 24) (oi := { dst := some 62, op := Op.pick (Operand.tmp 52) (Operand.tmp 61) (Operand.const (Value.bool false)), type := _, pos := _, after := _, guard := _ }) (v := ?_) rfl (by kernel_rfl) (by kernel_rfl) (by kernel_rfl) (fun _ _ _ h => h) (Or.inl ⟨by rfl, ?_⟩) hHeld ?_
            rotate_left
            · intro wq hSw
              go_simp
              rfl
            try simp only [Act.put, List.setIfInBounds_toArray, List.set_cons_zero, List.set_cons_succ]
            refine wpAnyH_take (i := 25) (oi := { dst := some 63, op := Op.move (Operand.tmp 62), type := _, pos := _, after := _, guard := _ }) (v := ?_) rfl (by kernel_rfl) (by kernel_rfl) (by kernel_rfl) (fun _ _ _ h => h) (Or.inl ⟨by rfl, ?_⟩) hHeld ?_
            rotate_left
            · intro wq hSw
              go_simp
              rfl
            try simp only [Act.put, List.setIfInBounds_toArray, List.set_cons_zero, List.set_cons_succ]
            refine wpAnyH_take (i := 26) (oi := { dst := some 64, op := Op.load 28 (Operand.tmp 5), type := _, pos := _, after := _, guard := _ }) rfl (by kernel_rfl) (by kernel_rfl) (by kernel_rfl) (fun _ _ _ h => h) (yl t28 (by rfl) _ rfl _ rfl (fun w1 h => h.k) lK) hHeld ?_
            try simp only [Act.put, List.setIfInBounds_toArray, List.set_cons_zero, List.set_cons_succ]
            refine wpAnyH_take (i := 27) (oi := { dst := some 65, op := Op.move (Operand.tmp 9), type := _, pos := _, after := _, guard := _ }) (v := ?_) rfl (by kernel_rfl) (by kernel_rfl) (by kernel_rfl) (fun _ _ _ h => h) (Or.inl ⟨by rfl, ?_⟩) hHeld ?_
            rotate_left
            · intro wq hSw
              go_simp
              rfl
            try simp only [Act.put, List.setIfInBounds_toArray, List.set_cons_zero, List.set_cons_succ]
            refine wpAnyH_take (i := 30) (oi := { dst := some 68, op := Op.load 28 (Operand.tmp 5), type := _, pos := _, after := _, guard := _ }) rfl (by kernel_rfl) (by kernel_rfl) (by kernel_rfl) (fun _ _ _ h => h) (yl t28 (by rfl) _ rfl _ rfl (fun w1 h => h.k) lK) hHeld ?_
            try simp only [Act.put, List.setIfInBounds_toArray, List.set_cons_zero, List.set_cons_succ]
            refine wpAnyH_take (i := 31) (oi := { dst := some 69, op := Op.move (Operand.tmp 9), type := _, pos := _, after := _, guard := _ }) (v := ?_) rfl (by kernel_rfl) (by kernel_rfl) (by kernel_rfl) (fun _ _ _ h => h) (Or.inl ⟨by rfl, ?_⟩) hHeld ?_
            rotate_left
            · intro wq hSw
              go_simp
              rfl
            try simp only [Act.put, List.setIfInBounds_toArray, List.set_cons_zero, List.set_cons_succ]
            refine wpAnyH_ready (rs := [28, 32]) (by kernel_rfl) (by simp) ?_
            refine AllReadyH.cons (o := { dst := some 66, op := Op.buildSlice 31 1 #[(0, Operand.tmp 65)], type := _, pos := _, after := _, guard := _ }) rfl (fun KK hKK => ?_) ?_
            · have hKS := Lib.hid hKK
              clear hKK
              go_simp
              refine hKS.out.out _ _ (hHeld.below (grow _ _)) (fun hHeld => ?_)
              clear hKS KK
              have hx := grow w22 (Obj.cells #[.string u] 9)
              try replace p1 := p1.below hx
              try replace p8 := p8.below hx
              try replace p17 := p17.below hx
              try replace p21 := p21.below hx
              try replace p32 := p32.below hx
              have p28 := Pt.new1 w22 u
              clear hx
              generalize World.alloc w22 (Obj.cells #[.string u] 9) = v28 at *
              generalize World.heap w22 = h28 at *
              generalize h28.size = g28 at *
              try simp only [Act.put, List.setIfInBounds_toArray, List.set_cons_zero, List.set_cons_succ]
              refine wpAnyH_ready (rs := [29, 32]) (by kernel_rfl) (by simp) ?_
              refine AllReadyH.cons (o := { dst := some 67, op := Op.call { callee := Callee.value (Operand.func 12), args := #[Operand.tmp 64, Operand.tmp 66], argTypes := #[28, 31] }, type := _, pos := _, after := _, guard := _ }) rfl (fun KK hKK => ?_) ?_
              · have hKS := Lib.hid hKK
                clear hKK
                go_simp
                refine (ku _ _ hHeld p28).mono ?_
                rintro e w29 ⟨rfl, hx⟩
                go_wp2_with fail
                try replace p1 := p1.below hx
                try replace p8 := p8.below hx
                try replace p17 := p17.below hx
                try replace p21 := p21.below hx
                try replace p28 := p28.below hx
                try replace p32 := p32.below hx
                refine hKS.out.out _ _ (hHeld.below hx) (fun hHeld => ?_)
                clear hKS KK hx
                try simp only [Act.put, List.setIfInBounds_toArray, List.set_cons_zero, List.set_cons_succ]
                refine wpAnyH_ready (rs := [32]) (by kernel_rfl) (by simp) ?_
                refine AllReadyH.cons (o := { dst := some 70, op := Op.buildSlice 31 1 #[(0, Operand.tmp 69)], type := _, pos := _, after := _, guard := _ }) rfl (fun KK hKK => ?_) AllReadyH.nil
                have hKS := Lib.hid hKK
                clear hKK
                go_simp
                refine hKS.out.out _ _ (hHeld.below (grow _ _)) (fun hHeld => ?_)
                clear hKS KK
                have hx := grow w29 (Obj.cells #[.string u] 9)
                try replace p1 := p1.below hx
                try replace p8 := p8.below hx
                try replace p17 := p17.below hx
                try replace p21 := p21.below hx
                try replace p28 := p28.below hx
                have p32 := Pt.new1 w29 u
                clear hx
                generalize World.alloc w29 (Obj.cells #[.string u] 9) = v32 at *
                generalize World.heap w29 = h32 at *
                generalize h32.size = g32 at *
                try simp only [Act.put, List.setIfInBounds_toArray, List.set_cons_zero, List.set_cons_succ]
                refine wpAnyH_ready (rs := [33]) (by kernel_rfl) (by simp) ?_
                refine AllReadyH.cons (o := { dst := some 71, op := Op.call { callee := Callee.value (Operand.func 13), args := #[Operand.tmp 68, Operand.tmp 70], argTypes := #[28, 31] }, type := _, pos := _, after := _, guard := _ }) rfl (fun KK hKK => ?_) AllReadyH.nil
                have hKS := Lib.hid hKK
                clear hKK
                go_simp
                refine (ru _ _ p32).mono ?_
                rintro e w33 ⟨rfl, hx⟩
                go_wp2_with fail
                try replace p1 := p1.below hx
                try replace p8 := p8.below hx
                try replace p17 := p17.below hx
                try replace p21 := p21.below hx
                try replace p28 := p28.below hx
                try replace p32 := p32.below hx
                refine hKS.out.out _ _ (hHeld.below hx) (fun hHeld => ?_)
                clear hKS KK hx
                try simp only [Act.put, List.setIfInBounds_toArray, List.set_cons_zero, List.set_cons_succ]
                refine wpAnyH_take (i := 34) (oi := { dst := some 72, op := Op.binOp BinOp.eql 24 (Operand.tmp 67) (Operand.tmp 71) 24, type := _, pos := _, after := _, guard := _ }) (v := .bool true) rfl (by kernel_rfl) (by kernel_rfl) (by kernel_rfl) (fun _ _ _ h => h) (Or.inl ⟨by rfl, fun wq hSw => exec_same G lG wq _ _ _ rfl rfl _ rfl⟩) hHeld ?_
                try simp only [Act.put, List.setIfInBounds_toArray, List.set_cons_zero, List.set_cons_succ]
                refine wpAnyH_take (i := 35) (oi := { dst := some 73, op := Op.pick (Operand.tmp 63) (Operand.tmp 72) (Operand.const (Value.bool false)), type := _, pos := _, after := _, guard := _ }) (v := ?_) rfl (by kernel_rfl) (by kernel_rfl) (by kernel_rfl) (fun _ _ _ h => h) (Or.inl ⟨by rfl, ?_⟩) hHeld ?_
                rotate_left
                · intro wq hSw
                  go_simp
                  rfl
                try simp only [Act.put, List.setIfInBounds_toArray, List.set_cons_zero, List.set_cons_succ]
                refine wpAnyH_take (i := 36) (oi := { dst := some 6, op := Op.assign (Operand.tmp 73), type := _, pos := _, after := _, guard := _ }) (v := ?_) rfl (by kernel_rfl) (by kernel_rfl) (by kernel_rfl) (fun _ _ _ h => h) (Or.inl ⟨by rfl, ?_⟩) hHeld ?_
                rotate_left
                · intro wq hSw
                  go_simp
                  rfl
                try simp only [Act.put, List.setIfInBounds_toArray, List.set_cons_zero, List.set_cons_succ]
                refine wpAnyH_done (by kernel_rfl) ?_ _
                go_wp2_with fail
                go_ret
                exact ⟨rfl, hHeld.b⟩
              refine AllReadyH.cons (o := { dst := some 70, op := Op.buildSlice 31 1 #[(0, Operand.tmp 69)], type := _, pos := _, after := _, guard := _ }) rfl (fun KK hKK => ?_) AllReadyH.nil
              · have hKS := Lib.hid hKK
                clear hKK
                go_simp
                refine hKS.out.out _ _ (hHeld.below (grow _ _)) (fun hHeld => ?_)
                clear hKS KK
                have hx := grow v28 (Obj.cells #[.string u] 9)
                try replace p1 := p1.below hx
                try replace p8 := p8.below hx
                try replace p17 := p17.below hx
                try replace p21 := p21.below hx
                try replace p28 := p28.below hx
                have p32 := Pt.new1 v28 u
                clear hx
                generalize World.alloc v28 (Obj.cells #[.string u] 9) = v32 at *
                generalize World.heap v28 = h32 at *
                generalize h32.size = g32 at *
                try simp only [Act.put, List.setIfInBounds_toArray, List.set_cons_zero, List.set_cons_succ]
                refine wpAnyH_ready (rs := [29]) (by kernel_rfl) (by simp) ?_
                refine AllReadyH.cons (o := { dst := some 67, op := Op.call { callee := Callee.value (Operand.func 12), args := #[Operand.tmp 64, Operand.tmp 66], argTypes := #[28, 31] }, type := _, pos := _, after := _, guard := _ }) rfl (fun KK hKK => ?_) AllReadyH.nil
                have hKS := Lib.hid hKK
                clear hKK
                go_simp
                refine (ku _ _ hHeld p28).mono ?_
                rintro e w29 ⟨rfl, hx⟩
                go_wp2_with fail
                try replace p1 := p1.below hx
                try replace p8 := p8.below hx
                try replace p17 := p17.below hx
                try replace p21 := p21.below hx
                try replace p28 := p28.below hx
                try replace p32 := p32.below hx
                refine hKS.out.out _ _ (hHeld.below hx) (fun hHeld => ?_)
                clear hKS KK hx
                try simp only [Act.put, List.setIfInBounds_toArray, List.set_cons_zero, List.set_cons_succ]
                refine wpAnyH_ready (rs := [33]) (by kernel_rfl) (by simp) ?_
                refine AllReadyH.cons (o := { dst := some 71, op := Op.call { callee := Callee.value (Operand.func 13), args := #[Operand.tmp 68, Operand.tmp 70], argTypes := #[28, 31] }, type := _, pos := _, after := _, guard := _ }) rfl (fun KK hKK => ?_) AllReadyH.nil
                have hKS := Lib.hid hKK
                clear hKK
                go_simp
                refine (ru _ _ p32).mono ?_
                rintro e w33 ⟨rfl, hx⟩
                go_wp2_with fail
                try replace p1 := p1.below hx
                try replace p8 := p8.below hx
                try replace p17 := p17.below hx
                try replace p21 := p21.below hx
                try replace p28 := p28.below hx
                try replace p32 := p32.below hx
                refine hKS.out.out _ _ (hHeld.below hx) (fun hHeld => ?_)
                clear hKS KK hx
                try simp only [Act.put, List.setIfInBounds_toArray, List.set_cons_zero, List.set_cons_succ]
                refine wpAnyH_take (i := 34) (oi := { dst := some 72, op := Op.binOp BinOp.eql 24 (Operand.tmp 67) (Operand.tmp 71) 24, type := _, pos := _, after := _, guard := _ }) (v := .bool true) rfl (by kernel_rfl) (by kernel_rfl) (by kernel_rfl) (fun _ _ _ h => h) (Or.inl ⟨by rfl, fun wq hSw => exec_same G lG wq _ _ _ rfl rfl _ rfl⟩) hHeld ?_
                try simp only [Act.put, List.setIfInBounds_toArray, List.set_cons_zero, List.set_cons_succ]
                refine wpAnyH_take (i := 35) (oi := { dst := some 73, op := Op.pick (Operand.tmp 63) (Operand.tmp 72) (Operand.const (Value.bool false)), type := _, pos := _, after := _, guard := _ }) (v := ?_) rfl (by kernel_rfl) (by kernel_rfl) (by kernel_rfl) (fun _ _ _ h => h) (Or.inl ⟨by rfl, ?_⟩) hHeld ?_
                rotate_left
                · intro wq hSw
                  go_simp
                  rfl
                try simp only [Act.put, List.setIfInBounds_toArray, List.set_cons_zero, List.set_cons_succ]
                refine wpAnyH_take (i := 36) (oi := { dst := some 6, op := Op.assign (Operand.tmp 73), type := _, pos := _, after := _, guard := _ }) (v := ?_) rfl (by kernel_rfl) (by kernel_rfl) (by kernel_rfl) (fun _ _ _ h => h) (Or.inl ⟨by rfl, ?_⟩) hHeld ?_
                rotate_left
                · intro wq hSw
                  go_simp
                  rfl
                try simp only [Act.put, List.setIfInBounds_toArray, List.set_cons_zero, List.set_cons_succ]
                refine wpAnyH_done (by kernel_rfl) ?_ _
                go_wp2_with fail
                go_ret
                exact ⟨rfl, hHeld.b⟩
            refine AllReadyH.cons (o := { dst := some 70, op := Op.buildSlice 31 1 #[(0, Operand.tmp 69)], type := _, pos := _, after := _, guard := _ }) rfl (fun KK hKK => ?_) AllReadyH.nil
            · have hKS := Lib.hid hKK
              clear hKK
              go_simp
              refine hKS.out.out _ _ (hHeld.below (grow _ _)) (fun hHeld => ?_)
              clear hKS KK
              have hx := grow w22 (Obj.cells #[.string u] 9)
              try replace p1 := p1.below hx
              try replace p8 := p8.below hx
              try replace p17 := p17.below hx
              try replace p21 := p21.below hx
              try replace p28 := p28.below hx
              have p32 := Pt.new1 w22 u
              clear hx
              generalize World.alloc w22 (Obj.cells #[.string u] 9) = v32 at *
              generalize World.heap w22 = h32 at *
              generalize h32.size = g32 at *
              try simp only [Act.put, List.setIfInBounds_toArray, List.set_cons_zero, List.set_cons_succ]
              refine wpAnyH_ready (rs := [28]) (by kernel_rfl) (by simp) ?_
              refine AllReadyH.cons (o := { dst := some 66, op := Op.buildSlice 31 1 #[(0, Operand.tmp 65)], type := _, pos := _, after := _, guard := _ }) rfl (fun KK hKK => ?_) AllReadyH.nil
              have hKS := Lib.hid hKK
              clear hKK
              go_simp
              refine hKS.out.out _ _ (hHeld.below (grow _ _)) (fun hHeld => ?_)
              clear hKS KK
              have hx := grow v32 (Obj.cells #[.string u] 9)
              try replace p1 := p1.below hx
              try replace p8 := p8.below hx
              try replace p17 := p17.below hx
              try replace p21 := p21.below hx
              try replace p32 := p32.below hx
              have p28 := Pt.new1 v32 u
              clear hx
              generalize World.alloc v32 (Obj.cells #[.string u] 9) = v28 at *
              generalize World.heap v32 = h28 at *
              generalize h28.size = g28 at *
              try simp only [Act.put, List.setIfInBounds_toArray, List.set_cons_zero, List.set_cons_succ]
              refine wpAnyH_ready (rs := [29]) (by kernel_rfl) (by simp) ?_
              refine AllReadyH.cons (o := { dst := some 67, op := Op.call { callee := Callee.value (Operand.func 12), args := #[Operand.tmp 64, Operand.tmp 66], argTypes := #[28, 31] }, type := _, pos := _, after := _, guard := _ }) rfl (fun KK hKK => ?_) AllReadyH.nil
              have hKS := Lib.hid hKK
              clear hKK
              go_simp
              refine (ku _ _ hHeld p28).mono ?_
              rintro e w29 ⟨rfl, hx⟩
              go_wp2_with fail
              try replace p1 := p1.below hx
              try replace p8 := p8.below hx
              try replace p17 := p17.below hx
              try replace p21 := p21.below hx
              try replace p28 := p28.below hx
              try replace p32 := p32.below hx
              refine hKS.out.out _ _ (hHeld.below hx) (fun hHeld => ?_)
              clear hKS KK hx
              try simp only [Act.put, List.setIfInBounds_toArray, List.set_cons_zero, List.set_cons_succ]
              refine wpAnyH_ready (rs := [33]) (by kernel_rfl) (by simp) ?_
              refine AllReadyH.cons (o := { dst := some 71, op := Op.call { callee := Callee.value (Operand.func 13), args := #[Operand.tmp 68, Operand.tmp 70], argTypes := #[28, 31] }, type := _, pos := _, after := _, guard := _ }) rfl (fun KK hKK => ?_) AllReadyH.nil
              have hKS := Lib.hid hKK
              clear hKK
              go_simp
              refine (ru _ _ p32).mono ?_
              rintro e w33 ⟨rfl, hx⟩
              go_wp2_with fail
              try replace p1 := p1.below hx
              try replace p8 := p8.below hx
              try replace p17 := p17.below hx
              try replace p21 := p21.below hx
              try replace p28 := p28.below hx
              try replace p32 := p32.below hx
              refine hKS.out.out _ _ (hHeld.below hx) (fun hHeld => ?_)
              clear hKS KK hx
              try simp only [Act.put, List.setIfInBounds_toArray, List.set_cons_zero, List.set_cons_succ]
              refine wpAnyH_take (i := 34) (oi := { dst := some 72, op := Op.binOp BinOp.eql 24 (Operand.tmp 67) (Operand.tmp 71) 24, type := _, pos := _, after := _, guard := _ }) (v := .bool true) rfl (by kernel_rfl) (by kernel_rfl) (by kernel_rfl) (fun _ _ _ h => h) (Or.inl ⟨by rfl, fun wq hSw => exec_same G lG wq _ _ _ rfl rfl _ rfl⟩) hHeld ?_
              try simp only [Act.put, List.setIfInBounds_toArray, List.set_cons_zero, List.set_cons_succ]
              refine wpAnyH_take (i := 35) (oi := { dst := some 73, op := Op.pick (Operand.tmp 63) (Operand.tmp 72) (Operand.const (Value.bool false)), type := _, pos := _, after := _, guard := _ }) (v := ?_) rfl (by kernel_rfl) (by kernel_rfl) (by kernel_rfl) (fun _ _ _ h => h) (Or.inl ⟨by rfl, ?_⟩) hHeld ?_
              rotate_left
              · intro wq hSw
                go_simp
                rfl
              try simp only [Act.put, List.setIfInBounds_toArray, List.set_cons_zero, List.set_cons_succ]
              refine wpAnyH_take (i := 36) (oi := { dst := some 6, op := Op.assign (Operand.tmp 73), type := _, pos := _, after := _, guard := _ }) (v := ?_) rfl (by kernel_rfl) (by kernel_rfl) (by kernel_rfl) (fun _ _ _ h => h) (Or.inl ⟨by rfl, ?_⟩) hHeld ?_
              rotate_left
              · intro wq hSw
                go_simp
                rfl
              try simp only [Act.put, List.setIfInBounds_toArray, List.set_cons_zero, List.set_cons_succ]
              refine wpAnyH_done (by kernel_rfl) ?_ _
              go_wp2_with fail
              go_ret
              exact ⟨rfl, hHeld.b⟩

set_option maxRecDepth 100000 in
theorem lifted (os : Os) (started : os.Started) (H : Type) (enc : TypeId × Value → H) :
    ReturnsInHanded {} Tryd.checked os 8 .any (fun w args => (Rows.hashFilledSpec.pre enc Tryd.prog Tryd.f8 [] false w args ∧ laidMetH Tryd.prog laid2 w) ∧ sizedMet enc Tryd.prog Tryd.f8 (OpenSpec.ofChange Rows.hashFilledSpec) false w args)
      (Rows.hashFilledSpec.post enc Tryd.prog Tryd.f8 false true false false) := by
  refine returnsInHanded_of_change_and (C := Tryd.checked) (X := fun w _ => laidMetH Tryd.prog laid2 w) (fun _ _ _ hh h => h.of_heap hh) own started (by kernel_rfl) Tryd.func8
    (ChangeSpec.witness_shaped (enc := enc) (C := Tryd.checked) (os := os) (X := fun w _ => laidMetH Tryd.prog laid2 w) false (World.doorLaid Tryd.prog 400 os) #[.string ByteArray.empty, .int .u8 0, .agg (Array.replicate 32 (.int .u8 0))] 8 rfl (World.shaped_of_RefB (by kernel_rfl) (by kernel_rfl)) (by kernel_rfl) (by kernel_rfl) (by kernel_rfl) (door_met os _)) ?_
  intro W base args ds gs before hval0 hW _ _ hL _
  have hval : ∀ (j : Nat) t v, Tryd.f8.params[j]? = some t → args[j]? = some v → Value.okWide Tryd.prog W .any base t v := hval0
  have hW' := hW
  obtain ⟨p, q, hA0, hV, rfl, hfz, hnd⟩ := hW
  have hA : DataW.TrodAll enc Tryd.prog W 0 (fun _ => true) true Tryd.f8.params.toList args.toList ds p := hA0
  rw [Tryd.params8] at hA hval
  obtain ⟨v0, vs0, d0, ds0, p0, q0, hargs, rfl, rfl, h0, r0⟩ := trodAll_cons hA
  obtain ⟨v1, vs1, d1, ds1, p1, q1, rfl, rfl, rfl, h1, r1⟩ := trodAll_cons r0
  obtain ⟨v2, vs2, d2, ds2, p2, q2, rfl, rfl, rfl, h2, r2⟩ := trodAll_cons r1
  obtain ⟨rfl, rfl, rfl⟩ := trodAll_nil r2
  obtain rfl : args = #[v0, v1, v2] := by cases args; simp_all
  obtain ⟨rfl, rfl⟩ := trodVars_none hV
  obtain ⟨a0, rfl, rfl, rfl, w0⟩ := open_string Tryd.underlying9 (hval 0 9 v0 rfl rfl) h0
  obtain ⟨n1, rfl, rfl, rfl, w1⟩ := open_int Tryd.underlying5 (hval 1 5 v1 rfl rfl) h1
  obtain ⟨m1, rfl, z1⟩ := nat_u8 w1
  obtain ⟨K2, rfl, l2, b2⟩ := okKey (hval 2 28 v2 rfl rfl)
  have k2 := h2
  have lt2 : ∀ x ∈ p2, x.block < W.heap.size := by obtain ⟨m, hm⟩ := k2; exact DataW.trod_lt m _ _ _ hm
  have hT := of_laid hL
  clear hA0 hval0
  refine (walk a0 m1 K2 w0 z1 b2 l2 W hT).mono fun e W' ⟨he, bel⟩ => ?_
  subst he
  exact ⟨_, rfl, _, _, _, [], _, [], hW', trodAll_mk1 (shut_bool Tryd.underlying4 _), (trodAll_cons_mk (shut_string Tryd.underlying9 w0) (trodAll_cons_mk (shut_int Tryd.underlying5 w1) (trodAll_cons_mk (Below.trod laidOut (by kernel_rfl) (of_decide_eq_true (by kernel_rfl)) k2 bel lt2) trodAll_mk0))), rfl, bel.frame _, fun h => by cases h⟩

theorem bare : Rows.HashFilledSaid :=
  OpenClaim.holds_of_wide 8 Tryd.f8 rfl rfl rfl rfl rfl rfl rfl ⟨rfl, rfl, rfl, rfl, rfl⟩ rfl rfl rfl rfl rfl (by kernel_rfl) Tryd.func8 (by kernel_rfl)
    (of_decide_eq_true (by kernel_rfl)) (by unfold Func.isWrapper; first | (rw [if_pos (by decide +kernel)]; kernel_rfl) | (rw [if_neg (by decide +kernel)]; exact ⟨rfl, rfl⟩))
    (fun os started H enc _ => lifted os started H enc)

/-- the statement -/
theorem proved : Rows.HashFilledCardSaid :=
  Claim7.holds_tied_plain_at .later [] [.data, .data] true Rows.hashFilledCard.stood.harness false
    bare (fun _ h => by cases h) (by kernel_rfl) (fun _ h => by cases h) hashFilled_row_tie rfl ⟨rfl, rfl⟩ (by kernel_rfl) rfl
    (fun f fn hf hfn => by
      obtain rfl : f = 8 := Option.some.inj ((show Tryd.prog.funcNamed "hibernacle/hibernaclelaw02.HashFilled" = some 8 by kernel_rfl).symm.trans hf) |>.symm
      obtain rfl : fn = Tryd.f8 := (Option.some.inj (Tryd.func8.symm.trans hfn)).symm
      exact ⟨by kernel_rfl, fun j t ht => by
        rw [Tryd.params8] at ht
        have hm : t ∈ [9, 5, 28] := by simpa using Array.mem_of_getElem? ht
        have hall : ([9, 5, 28].all fun u => !Tryd.prog.wantsStandIn u) = true := by kernel_rfl
        exact (show Tryd.prog.wantsStandIn t = false by simpa using List.all_eq_true.1 hall t hm)⟩)
    (by kernel_rfl)
end Go.Proofs.YtaabefafafdndaaDoor.hashFilled
