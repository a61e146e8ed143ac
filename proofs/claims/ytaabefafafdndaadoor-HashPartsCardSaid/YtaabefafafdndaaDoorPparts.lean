/-
  For every key, list of texts and place the law HashParts returns true: the digests of any parts are those of all of them as one text, however that is cut; the package's two tables start as the program's text lays them.
-/
import Derived.Test.YtaabefafafdndaaDoorRows
import Derived.Test.YtaabefafafdndaaDoorCards
import Derived.Test.YtaabefafafdndaaDoorTie
import Derived.Test.YtaabefafafdndaaDoorEq
import Derived.WalkKit
import Derived.ProofKit
import Derived.LaidMore
import Derived.OpenShut
import Derived.ShutString
import Derived.Stop.Joined
import Derived.Test.YtaabefafafdndaaDoorTq
namespace Go.Proofs.YtaabefafafdndaaDoor.hashParts
open Go.ChangeShapes Go.WideShapes Go.ChangeAt Go.RowKit
open Go.ChangeMaps (open_string shut_string)
set_option linter.unusedVariables false

theorem own : ownKnob Tryd.prog.godebug = none := by kernel_rfl
def laid2 {H : Type} : List (String × DataW H) := [("hibernacle/hash.eight", Rows.laid_hibernacle_hash_eight), ("hibernacle/hash.rows", Rows.laid_hibernacle_hash_rows)]
theorem door_met (os : Os) (args : Array Value) : laidMetH Tryd.prog laid2 ((World.doorLaid Tryd.prog 400 os).forCall (fun _ _ => 0) ⟨#[], args, []⟩).memory :=
  laidMetH_of_parts3 (fuel := 8) (laidMet_of_run' 8 (by kernel_rfl) (by kernel_rfl)) (by kernel_rfl) (by kernel_rfl)
set_option maxRecDepth 100000 in
set_option maxHeartbeats 16000000 in
theorem walk {w0 : World} (K : List Nat) (a : Option Addr) (xs : List ByteArray) (c : Nat) (n : Nat) (hK : Bl.By K) (lK : K.length = 32) (hp : Pts w0 a xs) (hc : xs.length ≤ c) (hm : xs.length ≤ maxLen) (hs : ∀ x ∈ xs, x.size ≤ maxLen) (hn : n < 65536) (w : World) (hT : Tab w) (ew : w0 = w) :
    Calls Tryd.prog 5 #[.agg (vs .u8 K), .slice a xs.length c, .int .u16 (n : Int)] w fun e w' => e = .returned (.bool true) ∧ Below w.heap.size w w' := by
  subst ew
  obtain ⟨W0, hW0⟩ : ∃ W0, W0 = w0.alloc (Obj.cells (vs .u8 K) 28) := ⟨_, rfl⟩
  have st : Kf w0 W0 K := by rw [hW0]; exact ⟨Own.new _ _ _, (Below.refl _ w0).alloc (Nat.le_refl _) _⟩
  have ha := alive_any W0 (hT.below st.b)
  have HW0 := Lib.hid hW0
  have HS := Lib.hid hs
  clear hW0 hs
  go_enter Tryd.func5, Tryd.ntmps5
  go_wp2_with fail
  rw [← HW0.out]
  refine ha.mono ?_
  rintro e w1 ⟨rfl, hx⟩
  replace st := st.below hx
  clear hx ha HW0
  go_wp2_with fail
  refine (long_any a xs c _ (hp.below st.b) hm HS.out).mono ?_
  rintro e w2 ⟨⟨r, rfl, hr⟩, rfl⟩
  cases r
  case true =>
    go_wp2_with fail
    go_ret
    exact ⟨rfl, st.b⟩
  obtain ⟨h30, h700⟩ := hr rfl
  clear hr HS
  go_wp2_with fail
  go_loopw [7, 8] (fun s' i' wr => ∃ (j : Nat) (b : ByteArray), j ≤ xs.length ∧ b = bs (cat (xs.take j)) ∧ s' = .string b ∧ i' = .int .i64 j ∧ wr = w1) (fun _ i _ => xs.length - (intOf i).toNat)
  case atStart => exact ⟨0, _, by omega, rfl, rfl, rfl, rfl⟩
  case round =>
    obtain ⟨j, b, hj, hb, rfl, rfl, rfl⟩ := hrel
    by_cases hlt : j < xs.length
    · have hji : (j : Int) < (xs.length : Int) := by omega
      have hle := cat_take_le xs (j + 1)
      have en := cat_next xs j hlt
      have e1 : b ++ xs[j] = bs (cat (xs.take (j + 1))) := by rw [en, hb, bs_append, bs_tn]
      have z1 : b.size + (xs[j]).size ≤ 1000000000 := by rw [hb, bs_size, ← tn_length, ← List.length_append, ← en]; omega
      rcases hp with h | ⟨g, o, rfl, hg, hcell⟩
      · subst h; exact absurd hlt (by simp)
      · have c1 := (st.b.cell (p := ⟨g, o + j, none⟩) hg).trans (hcell j xs[j] (by simp [hlt]))
        have H := Lib.hid (And.intro e1 (And.intro hb en))
        clear hb en e1
        obtain ⟨x, hx⟩ : ∃ x, x = xs[j] := ⟨_, rfl⟩
        rw [← hx] at H z1 c1
        clear hx hcell
        go_wp2_with fail
        go_roundw
        case rel => exact ⟨j + 1, _, by omega, H.out.1, rfl, by go_num, trivial⟩
        case measure => simp [intOf]; omega
    · obtain rfl : j = xs.length := by omega
      rw [List.take_length] at hb
      have lD : (Bl.sum (cat xs)).length = 32 := Bl.digest_length _ _
      have lE : (Bl.keyed K (cat xs)).length = 32 := Bl.digest_length _ _
      have tb : tn b = cat xs := by rw [hb, tn_bs (cat_by xs)]
      have zb : b.size ≤ 700 := by rw [← tn_length, tb]; exact h700
      obtain ⟨p, hpp⟩ : ∃ p, p = n % (b.size + 1) := ⟨_, rfl⟩
      have hpb : p ≤ b.size := by
        have := Nat.mod_lt n (show 0 < b.size + 1 by omega)
        omega
      obtain ⟨u, hu⟩ : ∃ u, u = b.extract 0 p := ⟨_, rfl⟩
      obtain ⟨v, hv⟩ : ∃ v, v = b.extract p b.size := ⟨_, rfl⟩
      have ecut : tn u ++ tn v = tn b := by rw [hu, hv]; exact tn_cut b p hpb
      have ec1 : cat [b] = cat xs := by rw [cat_one, tb]
      have ec2 : cat [u, v] = cat xs := by rw [cat_two, ecut, tb]
      have ec3 : cat [u, ⟨#[]⟩, v] = cat xs := by rw [cat_three, tn_empty, List.nil_append, ecut, tb]
      have sx : ∀ wr, Kf w0 wr K → Calls Tryd.prog 10 #[.slice a xs.length c] wr fun e w' => e = .returned (.agg (vs .u8 (Bl.sum (cat xs)))) ∧ Below wr.heap.size wr w' := fun wr o => sum_any a xs c wr (hT.below o.b) (hp.below o.b) (by omega) hc (by omega)
      have kx : ∀ wr, Kf w0 wr K → Calls Tryd.prog 12 #[.agg (vs .u8 K), .slice a xs.length c] wr fun e w' => e = .returned (.agg (vs .u8 (Bl.keyed K (cat xs)))) ∧ Below wr.heap.size wr w' := fun wr o => keyed_any K a xs c wr hK lK (hT.below o.b) (hp.below o.b) (by omega) hc (by omega)
      have s1 : ∀ wr g, Kf w0 wr K → Pt wr g [b] → Calls Tryd.prog 10 #[.slice (some ⟨g, 0, none⟩) 1 1] wr fun e w' => e = .returned (.agg (vs .u8 (Bl.sum (cat xs)))) ∧ Below wr.heap.size wr w' := fun wr g o p => by
        have := sum_pt hT o.b p rfl (by simp) (by rw [ec1]; omega)
        rw [ec1] at this; exact this
      have s2 : ∀ wr g, Kf w0 wr K → Pt wr g [u, v] → Calls Tryd.prog 10 #[.slice (some ⟨g, 0, none⟩) 2 2] wr fun e w' => e = .returned (.agg (vs .u8 (Bl.sum (cat xs)))) ∧ Below wr.heap.size wr w' := fun wr g o p => by
        have := sum_pt hT o.b p rfl (by simp) (by rw [ec2]; omega)
        rw [ec2] at this; exact this
      have k1 : ∀ wr g, Kf w0 wr K → Pt wr g [b] → Calls Tryd.prog 12 #[.agg (vs .u8 K), .slice (some ⟨g, 0, none⟩) 1 1] wr fun e w' => e = .returned (.agg (vs .u8 (Bl.keyed K (cat xs)))) ∧ Below wr.heap.size wr w' := fun wr g o p => by
        have := keyed_pt hK lK hT o p rfl (by simp) (by rw [ec1]; omega)
        rw [ec1] at this; exact this
      have k3 : ∀ wr g, Kf w0 wr K → Pt wr g [u, ⟨#[]⟩, v] → Calls Tryd.prog 12 #[.agg (vs .u8 K), .slice (some ⟨g, 0, none⟩) 3 3] wr fun e w' => e = .returned (.agg (vs .u8 (Bl.keyed K (cat xs)))) ∧ Below wr.heap.size wr w' := fun wr g o p => by
        have := keyed_pt hK lK hT o p rfl (by simp) (by rw [ec3]; omega)
        rw [ec3] at this; exact this
      clear ec1 ec2 ec3 ecut tb hb h700 h30
      generalize Bl.sum (cat xs) = D at *
      generalize Bl.keyed K (cat xs) = E at *
      have f1 : IntKind.i64.wrap ((b.size : Int) + 1) = (b.size : Int) + 1 := IntWalk.i64_in _ (by omega)
      have f2 : (b.size : Int) + 1 ≠ 0 := by omega
      have f3 : (n : Int) % ((b.size : Int) + 1) = (p : Int) := by rw [hpp]; simp
      have f3' : (n : Int).tmod ((b.size : Int) + 1) = (p : Int) := by rw [Int.tmod_eq_emod_of_nonneg (by omega)]; exact f3
      have f4 : (p : Int) ≤ (b.size : Int) := by omega
      have f5 : IntKind.i64.wrap (p : Int) = (p : Int) := IntWalk.i64_in _ (by omega)
      have hu' := hu.symm
      have hv' := hv.symm
      clear hpp hu hv
      go_wp2_with fail
      refine wp_region_held_drew (S := fun w' => Kf w0 w' K) (by kernel_rfl) st.drew (fun hHeld => ?_)
      clear st
      generalize World.drew _ = W1 at *
      refine joinAt 40 #[true, true, true, true, true, true, true, false, false, false, false, false, false, false, false, false, false, false, false, false, false, false, false, false, false, false, false, false, false, false, false, false, false, false, false, false, false, false, false, false, false, false, false, false, false, false, false] (fun g3 _g => ⟨#[Value.agg (vs IntKind.u8 K), Value.slice a xs.length c, Value.int IntKind.u16 ↑n, Value.pointer (some { block := w0.heap.size, off := 0 }), undef, undef, Value.bool false, Value.string b, Value.int IntKind.i64 ↑xs.length, Value.int IntKind.i64 ↑p, Value.bool true, Value.bool false, Value.slice a xs.length c, Value.bool false, Value.int IntKind.i64 ↑xs.length, Value.slice a xs.length c, Value.int IntKind.i64 ↑xs.length, Value.bool false, u18, u19, u20, u21, u22, u23, u24, u25, Value.int IntKind.u16 ↑n, Value.int IntKind.i64 ↑n, Value.string b, Value.int IntKind.i64 ↑b.size, Value.int IntKind.i64 (↑b.size + 1), Value.int IntKind.i64 ↑p, Value.slice a xs.length c, Value.agg (vs IntKind.u8 D), Value.string b, Value.slice (some { block := g3, off := 0 }) 1 1, Value.agg (vs IntKind.u8 D), Value.bool true, Value.bool true, undef, undef, undef, undef, undef, undef, undef, undef, undef, undef, undef, undef, undef, undef, undef, undef, undef, undef, undef, undef, undef, undef, undef, undef, undef, undef, undef, undef, undef, undef, undef, undef, undef, undef, undef, undef, undef, undef, undef], []⟩) (fun g3 _ W2 hHeld => ?_) (fun key1 => ?_)
      rotate_left
      · refine tk (i := 0) (oi := ⟨some 32, .move (.tmp 1), _, _, _, _⟩) (v := ?_) rfl hHeld (.inl ⟨rfl, ?_⟩) ?_
        rotate_left
        · intro wq hSw; go_simp; rfl
        try simp only [Act.put, List.setIfInBounds_toArray, List.set_cons_zero, List.set_cons_succ]
        refine tk (i := 2) (oi := ⟨some 34, .move (.tmp 7), _, _, _, _⟩) (v := ?_) rfl hHeld (.inl ⟨rfl, ?_⟩) ?_
        rotate_left
        · intro wq hSw; go_simp; rfl
        try simp only [Act.put, List.setIfInBounds_toArray, List.set_cons_zero, List.set_cons_succ]
        refine wpAnyH_ready (rs := [1, 3]) (by kernel_rfl) (by simp) ?_
        refine AllReadyH.cons (o := { dst := some 33, op := Op.call { callee := Callee.value (Operand.func 10), args := #[Operand.tmp 32], argTypes := #[31] }, type := _, pos := _, after := _, guard := _ }) rfl (fun KK hKK => ?_) ?_
        · have hKS := Lib.hid hKK
          clear hKK
          go_simp
          refine (sx _ hHeld).mono ?_
          rintro e w1 ⟨rfl, hx⟩
          go_wp2_with fail
          try replace p3 := p3.below hx
          try replace p12 := p12.below hx
          try replace p23 := p23.below hx
          try replace p26 := p26.below hx
          try replace p38 := p38.below hx
          try replace p42 := p42.below hx
          refine hKS.out.out _ _ (hHeld.below hx) (fun hHeld => ?_)
          clear hKS KK hx
          try simp only [Act.put, List.setIfInBounds_toArray, List.set_cons_zero, List.set_cons_succ]
          refine wpAnyH_ready (rs := [3]) (by kernel_rfl) (by simp) ?_
          refine AllReadyH.cons (o := { dst := some 35, op := Op.buildSlice 31 1 #[(0, Operand.tmp 34)], type := _, pos := _, after := _, guard := _ }) rfl (fun KK hKK => ?_) AllReadyH.nil
          have hKS := Lib.hid hKK
          clear hKK
          go_simp
          refine hKS.out.out _ _ (hHeld.below (grow _ _)) (fun hHeld => ?_)
          clear hKS KK
          have hx := grow w1 (Obj.cells #[.string b] 9)
          try replace p12 := p12.below hx
          try replace p23 := p23.below hx
          try replace p26 := p26.below hx
          try replace p38 := p38.below hx
          try replace p42 := p42.below hx
          have p3 := Pt.new1 w1 b
          clear hx
          generalize World.alloc w1 (Obj.cells #[.string b] 9) = v3 at *
          generalize World.heap w1 = h3 at *
          generalize h3.size = g3 at *
          try simp only [Act.put, List.setIfInBounds_toArray, List.set_cons_zero, List.set_cons_succ]
          refine wpAnyH_ready (rs := [4]) (by kernel_rfl) (by simp) ?_
          refine AllReadyH.cons (o := { dst := some 36, op := Op.call { callee := Callee.value (Operand.func 10), args := #[Operand.tmp 35], argTypes := #[31] }, type := _, pos := _, after := _, guard := _ }) rfl (fun KK hKK => ?_) AllReadyH.nil
          have hKS := Lib.hid hKK
          clear hKK
          go_simp
          refine (s1 _ _ hHeld p3).mono ?_
          rintro e w4 ⟨rfl, hx⟩
          go_wp2_with fail
          try replace p3 := p3.below hx
          try replace p12 := p12.below hx
          try replace p23 := p23.below hx
          try replace p26 := p26.below hx
          try replace p38 := p38.below hx
          try replace p42 := p42.below hx
          refine hKS.out.out _ _ (hHeld.below hx) (fun hHeld => ?_)
          clear hKS KK hx
          try simp only [Act.put, List.setIfInBounds_toArray, List.set_cons_zero, List.set_cons_succ]
          refine tk (i := 5) (oi := ⟨some 37, Op.binOp BinOp.eql 24 (.tmp 33) (.tmp 36) 24, _, _, _, _⟩) (v := .bool true) rfl hHeld (.inl ⟨rfl, fun wq hSw => exec_same D lD wq _ _ _ rfl rfl _ rfl⟩) ?_
          try simp only [Act.put, List.setIfInBounds_toArray, List.set_cons_zero, List.set_cons_succ]
          refine tk (i := 6) (oi := ⟨some 38, .move (.tmp 37), _, _, _, _⟩) (v := ?_) rfl hHeld (.inl ⟨rfl, ?_⟩) ?_
          rotate_left
          · intro wq hSw; go_simp; rfl
          try simp only [Act.put, List.setIfInBounds_toArray, List.set_cons_zero, List.set_cons_succ]
          exact joinUse (key1 g3 0 _ hHeld)
        refine AllReadyH.cons (o := { dst := some 35, op := Op.buildSlice 31 1 #[(0, Operand.tmp 34)], type := _, pos := _, after := _, guard := _ }) rfl (fun KK hKK => ?_) AllReadyH.nil
        · have hKS := Lib.hid hKK
          clear hKK
          go_simp
          refine hKS.out.out _ _ (hHeld.below (grow _ _)) (fun hHeld => ?_)
          clear hKS KK
          have hx := grow W1 (Obj.cells #[.string b] 9)
          try replace p12 := p12.below hx
          try replace p23 := p23.below hx
          try replace p26 := p26.below hx
          try replace p38 := p38.below hx
          try replace p42 := p42.below hx
          have p3 := Pt.new1 W1 b
          clear hx
          generalize World.alloc W1 (Obj.cells #[.string b] 9) = v3 at *
          generalize World.heap W1 = h3 at *
          generalize h3.size = g3 at *
          try simp only [Act.put, List.setIfInBounds_toArray, List.set_cons_zero, List.set_cons_succ]
          refine wpAnyH_ready (rs := [1]) (by kernel_rfl) (by simp) ?_
          refine AllReadyH.cons (o := { dst := some 33, op := Op.call { callee := Callee.value (Operand.func 10), args := #[Operand.tmp 32], argTypes := #[31] }, type := _, pos := _, after := _, guard := _ }) rfl (fun KK hKK => ?_) AllReadyH.nil
          have hKS := Lib.hid hKK
          clear hKK
          go_simp
          refine (sx _ hHeld).mono ?_
          rintro e w1 ⟨rfl, hx⟩
          go_wp2_with fail
          try replace p3 := p3.below hx
          try replace p12 := p12.below hx
          try replace p23 := p23.below hx
          try replace p26 := p26.below hx
          try replace p38 := p38.below hx
          try replace p42 := p42.below hx
          refine hKS.out.out _ _ (hHeld.below hx) (fun hHeld => ?_)
          clear hKS KK hx
          try simp only [Act.put, List.setIfInBounds_toArray, List.set_cons_zero, List.set_cons_succ]
          refine wpAnyH_ready (rs := [4]) (by kernel_rfl) (by simp) ?_
          refine AllReadyH.cons (o := { dst := some 36, op := Op.call { callee := Callee.value (Operand.func 10), args := #[Operand.tmp 35], argTypes := #[31] }, type := _, pos := _, after := _, guard := _ }) rfl (fun KK hKK => ?_) AllReadyH.nil
          have hKS := Lib.hid hKK
          clear hKK
          go_simp
          refine (s1 _ _ hHeld p3).mono ?_
          rintro e w4 ⟨rfl, hx⟩
          go_wp2_with fail
          try replace p3 := p3.below hx
          try replace p12 := p12.below hx
          try replace p23 := p23.below hx
          try replace p26 := p26.below hx
          try replace p38 := p38.below hx
          try replace p42 := p42.below hx
          refine hKS.out.out _ _ (hHeld.below hx) (fun hHeld => ?_)
          clear hKS KK hx
          try simp only [Act.put, List.setIfInBounds_toArray, List.set_cons_zero, List.set_cons_succ]
          refine tk (i := 5) (oi := ⟨some 37, Op.binOp BinOp.eql 24 (.tmp 33) (.tmp 36) 24, _, _, _, _⟩) (v := .bool true) rfl hHeld (.inl ⟨rfl, fun wq hSw => exec_same D lD wq _ _ _ rfl rfl _ rfl⟩) ?_
          try simp only [Act.put, List.setIfInBounds_toArray, List.set_cons_zero, List.set_cons_succ]
          refine tk (i := 6) (oi := ⟨some 38, .move (.tmp 37), _, _, _, _⟩) (v := ?_) rfl hHeld (.inl ⟨rfl, ?_⟩) ?_
          rotate_left
          · intro wq hSw; go_simp; rfl
          try simp only [Act.put, List.setIfInBounds_toArray, List.set_cons_zero, List.set_cons_succ]
          exact joinUse (key1 g3 0 _ hHeld)
      dsimp only
      replace hHeld : Kf w0 W2 K := hHeld
      refine joinAt 30 #[true, true, true, true, true, true, true, true, true, true, true, true, true, true, true, true, true, false, false, false, false, false, false, false, false, false, false, false, false, false, false, false, false, false, false, false, false, false, false, false, false, false, false, false, false, false, false] (fun g12 _g => ⟨#[Value.agg (vs IntKind.u8 K), Value.slice a xs.length c, Value.int IntKind.u16 ↑n, Value.pointer (some { block := w0.heap.size, off := 0 }), undef, undef, Value.bool false, Value.string b, Value.int IntKind.i64 ↑xs.length, Value.int IntKind.i64 ↑p, Value.bool true, Value.bool false, Value.slice a xs.length c, Value.bool false, Value.int IntKind.i64 ↑xs.length, Value.slice a xs.length c, Value.int IntKind.i64 ↑xs.length, Value.bool false, u18, u19, u20, u21, u22, u23, u24, u25, Value.int IntKind.u16 ↑n, Value.int IntKind.i64 ↑n, Value.string b, Value.int IntKind.i64 ↑b.size, Value.int IntKind.i64 (↑b.size + 1), Value.int IntKind.i64 ↑p, Value.slice a xs.length c, Value.agg (vs IntKind.u8 D), Value.string b, Value.slice (some { block := g3, off := 0 }) 1 1, Value.agg (vs IntKind.u8 D), Value.bool true, Value.bool true, Value.agg (vs IntKind.u8 K), Value.slice a xs.length c, Value.agg (vs IntKind.u8 E), Value.agg (vs IntKind.u8 K), Value.string b, Value.slice (some { block := g12, off := 0 }) 1 1, Value.agg (vs IntKind.u8 E), Value.bool true, Value.bool true, Value.bool true, undef, undef, undef, undef, undef, undef, undef, undef, undef, undef, undef, undef, undef, undef, undef, undef, undef, undef, undef, undef, undef, undef, undef, undef, undef, undef, undef, undef, undef], []⟩) (fun g12 _ W3 hHeld => ?_) (fun key2 => ?_)
      rotate_left
      · refine tk (i := 7) (oi := ⟨some 39, .load 28 (.tmp 3), _, _, _, _⟩) rfl hHeld (yl t28 (by rfl) _ rfl _ rfl (fun w1 h => h.k) lK) ?_
        try simp only [Act.put, List.setIfInBounds_toArray, List.set_cons_zero, List.set_cons_succ]
        refine tk (i := 8) (oi := ⟨some 40, .move (.tmp 1), _, _, _, _⟩) (v := ?_) rfl hHeld (.inl ⟨rfl, ?_⟩) ?_
        rotate_left
        · intro wq hSw; go_simp; rfl
        try simp only [Act.put, List.setIfInBounds_toArray, List.set_cons_zero, List.set_cons_succ]
        refine tk (i := 10) (oi := ⟨some 42, .load 28 (.tmp 3), _, _, _, _⟩) rfl hHeld (yl t28 (by rfl) _ rfl _ rfl (fun w1 h => h.k) lK) ?_
        try simp only [Act.put, List.setIfInBounds_toArray, List.set_cons_zero, List.set_cons_succ]
        refine tk (i := 11) (oi := ⟨some 43, .move (.tmp 7), _, _, _, _⟩) (v := ?_) rfl hHeld (.inl ⟨rfl, ?_⟩) ?_
        rotate_left
        · intro wq hSw; go_simp; rfl
        try simp only [Act.put, List.setIfInBounds_toArray, List.set_cons_zero, List.set_cons_succ]
        refine wpAnyH_ready (rs := [9, 12]) (by kernel_rfl) (by simp) ?_
        refine AllReadyH.cons (o := { dst := some 41, op := Op.call { callee := Callee.value (Operand.func 12), args := #[Operand.tmp 39, Operand.tmp 40], argTypes := #[28, 31] }, type := _, pos := _, after := _, guard := _ }) rfl (fun KK hKK => ?_) ?_
        · have hKS := Lib.hid hKK
          clear hKK
          go_simp
          refine (kx _ hHeld).mono ?_
          rintro e w9 ⟨rfl, hx⟩
          go_wp2_with fail
          try replace p3 := p3.below hx
          try replace p12 := p12.below hx
          try replace p23 := p23.below hx
          try replace p26 := p26.below hx
          try replace p38 := p38.below hx
          try replace p42 := p42.below hx
          refine hKS.out.out _ _ (hHeld.below hx) (fun hHeld => ?_)
          clear hKS KK hx
          try simp only [Act.put, List.setIfInBounds_toArray, List.set_cons_zero, List.set_cons_succ]
          refine wpAnyH_ready (rs := [12]) (by kernel_rfl) (by simp) ?_
          refine AllReadyH.cons (o := { dst := some 44, op := Op.buildSlice 31 1 #[(0, Operand.tmp 43)], type := _, pos := _, after := _, guard := _ }) rfl (fun KK hKK => ?_) AllReadyH.nil
          have hKS := Lib.hid hKK
          clear hKK
          go_simp
          refine hKS.out.out _ _ (hHeld.below (grow _ _)) (fun hHeld => ?_)
          clear hKS KK
          have hx := grow w9 (Obj.cells #[.string b] 9)
          try replace p3 := p3.below hx
          try replace p23 := p23.below hx
          try replace p26 := p26.below hx
          try replace p38 := p38.below hx
          try replace p42 := p42.below hx
          have p12 := Pt.new1 w9 b
          clear hx
          generalize World.alloc w9 (Obj.cells #[.string b] 9) = v12 at *
          generalize World.heap w9 = h12 at *
          generalize h12.size = g12 at *
          try simp only [Act.put, List.setIfInBounds_toArray, List.set_cons_zero, List.set_cons_succ]
          refine wpAnyH_ready (rs := [13]) (by kernel_rfl) (by simp) ?_
          refine AllReadyH.cons (o := { dst := some 45, op := Op.call { callee := Callee.value (Operand.func 12), args := #[Operand.tmp 42, Operand.tmp 44], argTypes := #[28, 31] }, type := _, pos := _, after := _, guard := _ }) rfl (fun KK hKK => ?_) AllReadyH.nil
          have hKS := Lib.hid hKK
          clear hKK
          go_simp
          refine (k1 _ _ hHeld p12).mono ?_
          rintro e w13 ⟨rfl, hx⟩
          go_wp2_with fail
          try replace p3 := p3.below hx
          try replace p12 := p12.below hx
          try replace p23 := p23.below hx
          try replace p26 := p26.below hx
          try replace p38 := p38.below hx
          try replace p42 := p42.below hx
          refine hKS.out.out _ _ (hHeld.below hx) (fun hHeld => ?_)
          clear hKS KK hx
          try simp only [Act.put, List.setIfInBounds_toArray, List.set_cons_zero, List.set_cons_succ]
          refine tk (i := 14) (oi := ⟨some 46, Op.binOp BinOp.eql 24 (.tmp 41) (.tmp 45) 24, _, _, _, _⟩) (v := .bool true) rfl hHeld (.inl ⟨rfl, fun wq hSw => exec_same E lE wq _ _ _ rfl rfl _ rfl⟩) ?_
          try simp only [Act.put, List.setIfInBounds_toArray, List.set_cons_zero, List.set_cons_succ]
          refine tk (i := 15) (oi := ⟨some 47, .pick (.tmp 38) (.tmp 46) (.const (Value.bool false)), _, _, _, _⟩) (v := ?_) rfl hHeld (.inl ⟨rfl, ?_⟩) ?_
          rotate_left
          · intro wq hSw; go_simp; rfl
          try simp only [Act.put, List.setIfInBounds_toArray, List.set_cons_zero, List.set_cons_succ]
          refine tk (i := 16) (oi := ⟨some 48, .move (.tmp 47), _, _, _, _⟩) (v := ?_) rfl hHeld (.inl ⟨rfl, ?_⟩) ?_
          rotate_left
          · intro wq hSw; go_simp; rfl
          try simp only [Act.put, List.setIfInBounds_toArray, List.set_cons_zero, List.set_cons_succ]
          exact joinUse (key2 g12 0 _ hHeld)
        refine AllReadyH.cons (o := { dst := some 44, op := Op.buildSlice 31 1 #[(0, Operand.tmp 43)], type := _, pos := _, after := _, guard := _ }) rfl (fun KK hKK => ?_) AllReadyH.nil
        · have hKS := Lib.hid hKK
          clear hKK
          go_simp
          refine hKS.out.out _ _ (hHeld.below (grow _ _)) (fun hHeld => ?_)
          clear hKS KK
          have hx := grow W2 (Obj.cells #[.string b] 9)
          try replace p3 := p3.below hx
          try replace p23 := p23.below hx
          try replace p26 := p26.below hx
          try replace p38 := p38.below hx
          try replace p42 := p42.below hx
          have p12 := Pt.new1 W2 b
          clear hx
          generalize World.alloc W2 (Obj.cells #[.string b] 9) = v12 at *
          generalize World.heap W2 = h12 at *
          generalize h12.size = g12 at *
          try simp only [Act.put, List.setIfInBounds_toArray, List.set_cons_zero, List.set_cons_succ]
          refine wpAnyH_ready (rs := [9]) (by kernel_rfl) (by simp) ?_
          refine AllReadyH.cons (o := { dst := some 41, op := Op.call { callee := Callee.value (Operand.func 12), args := #[Operand.tmp 39, Operand.tmp 40], argTypes := #[28, 31] }, type := _, pos := _, after := _, guard := _ }) rfl (fun KK hKK => ?_) AllReadyH.nil
          have hKS := Lib.hid hKK
          clear hKK
          go_simp
          refine (kx _ hHeld).mono ?_
          rintro e w9 ⟨rfl, hx⟩
          go_wp2_with fail
          try replace p3 := p3.below hx
          try replace p12 := p12.below hx
          try replace p23 := p23.below hx
          try replace p26 := p26.below hx
          try replace p38 := p38.below hx
          try replace p42 := p42.below hx
          refine hKS.out.out _ _ (hHeld.below hx) (fun hHeld => ?_)
          clear hKS KK hx
          try simp only [Act.put, List.setIfInBounds_toArray, List.set_cons_zero, List.set_cons_succ]
          refine wpAnyH_ready (rs := [13]) (by kernel_rfl) (by simp) ?_
          refine AllReadyH.cons (o := { dst := some 45, op := Op.call { callee := Callee.value (Operand.func 12), args := #[Operand.tmp 42, Operand.tmp 44], argTypes := #[28, 31] }, type := _, pos := _, after := _, guard := _ }) rfl (fun KK hKK => ?_) AllReadyH.nil
          have hKS := Lib.hid hKK
          clear hKK
          go_simp
          refine (k1 _ _ hHeld p12).mono ?_
          rintro e w13 ⟨rfl, hx⟩
          go_wp2_with fail
          try replace p3 := p3.below hx
          try replace p12 := p12.below hx
          try replace p23 := p23.below hx
          try replace p26 := p26.below hx
          try replace p38 := p38.below hx
          try replace p42 := p42.below hx
          refine hKS.out.out _ _ (hHeld.below hx) (fun hHeld => ?_)
          clear hKS KK hx
          try simp only [Act.put, List.setIfInBounds_toArray, List.set_cons_zero, List.set_cons_succ]
          refine tk (i := 14) (oi := ⟨some 46, Op.binOp BinOp.eql 24 (.tmp 41) (.tmp 45) 24, _, _, _, _⟩) (v := .bool true) rfl hHeld (.inl ⟨rfl, fun wq hSw => exec_same E lE wq _ _ _ rfl rfl _ rfl⟩) ?_
          try simp only [Act.put, List.setIfInBounds_toArray, List.set_cons_zero, List.set_cons_succ]
          refine tk (i := 15) (oi := ⟨some 47, .pick (.tmp 38) (.tmp 46) (.const (Value.bool false)), _, _, _, _⟩) (v := ?_) rfl hHeld (.inl ⟨rfl, ?_⟩) ?_
          rotate_left
          · intro wq hSw; go_simp; rfl
          try simp only [Act.put, List.setIfInBounds_toArray, List.set_cons_zero, List.set_cons_succ]
          refine tk (i := 16) (oi := ⟨some 48, .move (.tmp 47), _, _, _, _⟩) (v := ?_) rfl hHeld (.inl ⟨rfl, ?_⟩) ?_
          rotate_left
          · intro wq hSw; go_simp; rfl
          try simp only [Act.put, List.setIfInBounds_toArray, List.set_cons_zero, List.set_cons_succ]
          exact joinUse (key2 g12 0 _ hHeld)
      dsimp only
      replace hHeld : Kf w0 W3 K := hHeld
      refine joinAt 16 #[true, true, true, true, true, true, true, true, true, true, true, true, true, true, true, true, true, true, true, true, true, true, true, true, true, true, true, true, true, true, true, false, false, false, false, false, false, false, false, false, false, false, false, false, false, false, false] (fun g23 g26 => ⟨#[Value.agg (vs IntKind.u8 K), Value.slice a xs.length c, Value.int IntKind.u16 ↑n, Value.pointer (some { block := w0.heap.size, off := 0 }), undef, undef, Value.bool false, Value.string b, Value.int IntKind.i64 ↑xs.length, Value.int IntKind.i64 ↑p, Value.bool true, Value.bool false, Value.slice a xs.length c, Value.bool false, Value.int IntKind.i64 ↑xs.length, Value.slice a xs.length c, Value.int IntKind.i64 ↑xs.length, Value.bool false, u18, u19, u20, u21, u22, u23, u24, u25, Value.int IntKind.u16 ↑n, Value.int IntKind.i64 ↑n, Value.string b, Value.int IntKind.i64 ↑b.size, Value.int IntKind.i64 (↑b.size + 1), Value.int IntKind.i64 ↑p, Value.slice a xs.length c, Value.agg (vs IntKind.u8 D), Value.string b, Value.slice (some { block := g3, off := 0 }) 1 1, Value.agg (vs IntKind.u8 D), Value.bool true, Value.bool true, Value.agg (vs IntKind.u8 K), Value.slice a xs.length c, Value.agg (vs IntKind.u8 E), Value.agg (vs IntKind.u8 K), Value.string b, Value.slice (some { block := g12, off := 0 }) 1 1, Value.agg (vs IntKind.u8 E), Value.bool true, Value.bool true, Value.bool true, Value.string b, Value.int IntKind.i64 ↑p, Value.string u, Value.string b, Value.int IntKind.i64 ↑p, Value.string v, Value.slice (some { block := g23, off := 0 }) 2 2, Value.agg (vs IntKind.u8 D), Value.string b, Value.slice (some { block := g26, off := 0 }) 1 1, Value.agg (vs IntKind.u8 D), Value.bool true, Value.bool true, Value.bool true, undef, undef, undef, undef, undef, undef, undef, undef, undef, undef, undef, undef, undef, undef, undef], []⟩) (fun g23 g26 W4 hHeld => ?_) (fun key3 => ?_)
      rotate_left
      · refine tk (i := 17) (oi := ⟨some 49, .move (.tmp 7), _, _, _, _⟩) (v := ?_) rfl hHeld (.inl ⟨rfl, ?_⟩) ?_
        rotate_left
        · intro wq hSw; go_simp; rfl
        try simp only [Act.put, List.setIfInBounds_toArray, List.set_cons_zero, List.set_cons_succ]
        refine tk (i := 18) (oi := ⟨some 50, .move (.tmp 9), _, _, _, _⟩) (v := ?_) rfl hHeld (.inl ⟨rfl, ?_⟩) ?_
        rotate_left
        · intro wq hSw; go_simp; rfl
        try simp only [Act.put, List.setIfInBounds_toArray, List.set_cons_zero, List.set_cons_succ]
        refine tk (i := 19) (oi := ⟨some 51, .slice 9 (.tmp 49) none (some (.tmp 50)) none, _, _, _, _⟩) (v := ?_) rfl hHeld (.inl ⟨rfl, ?_⟩) ?_
        rotate_left
        · intro wq hSw; go_simp; rfl
        try simp only [Act.put, List.setIfInBounds_toArray, List.set_cons_zero, List.set_cons_succ]
        refine tk (i := 20) (oi := ⟨some 52, .move (.tmp 7), _, _, _, _⟩) (v := ?_) rfl hHeld (.inl ⟨rfl, ?_⟩) ?_
        rotate_left
        · intro wq hSw; go_simp; rfl
        try simp only [Act.put, List.setIfInBounds_toArray, List.set_cons_zero, List.set_cons_succ]
        refine tk (i := 21) (oi := ⟨some 53, .move (.tmp 9), _, _, _, _⟩) (v := ?_) rfl hHeld (.inl ⟨rfl, ?_⟩) ?_
        rotate_left
        · intro wq hSw; go_simp; rfl
        try simp only [Act.put, List.setIfInBounds_toArray, List.set_cons_zero, List.set_cons_succ]
        refine tk (i := 22) (oi := ⟨some 54, .slice 9 (.tmp 52) (some (.tmp 53)) none none, _, _, _, _⟩) (v := ?_) rfl hHeld (.inl ⟨rfl, ?_⟩) ?_
        rotate_left
        · intro wq hSw; go_simp; rfl
        try simp only [Act.put, List.setIfInBounds_toArray, List.set_cons_zero, List.set_cons_succ]
        refine tk (i := 25) (oi := ⟨some 57, .move (.tmp 7), _, _, _, _⟩) (v := ?_) rfl hHeld (.inl ⟨rfl, ?_⟩) ?_
        rotate_left
        · intro wq hSw; go_simp; rfl
        try simp only [Act.put, List.setIfInBounds_toArray, List.set_cons_zero, List.set_cons_succ]
        refine wpAnyH_ready (rs := [23, 26]) (by kernel_rfl) (by simp) ?_
        refine AllReadyH.cons (o := { dst := some 55, op := Op.buildSlice 31 2 #[(0, Operand.tmp 51), (1, Operand.tmp 54)], type := _, pos := _, after := _, guard := _ }) rfl (fun KK hKK => ?_) ?_
        · have hKS := Lib.hid hKK
          clear hKK
          go_simp
          refine hKS.out.out _ _ (hHeld.below (grow _ _)) (fun hHeld => ?_)
          clear hKS KK
          have hx := grow W3 (Obj.cells #[.string u, .string v] 9)
          try replace p3 := p3.below hx
          try replace p12 := p12.below hx
          try replace p26 := p26.below hx
          try replace p38 := p38.below hx
          try replace p42 := p42.below hx
          have p23 := Pt.new2 W3 u v
          clear hx
          generalize World.alloc W3 (Obj.cells #[.string u, .string v] 9) = v23 at *
          generalize World.heap W3 = h23 at *
          generalize h23.size = g23 at *
          try simp only [Act.put, List.setIfInBounds_toArray, List.set_cons_zero, List.set_cons_succ]
          refine wpAnyH_ready (rs := [24, 26]) (by kernel_rfl) (by simp) ?_
          refine AllReadyH.cons (o := { dst := some 56, op := Op.call { callee := Callee.value (Operand.func 10), args := #[Operand.tmp 55], argTypes := #[31] }, type := _, pos := _, after := _, guard := _ }) rfl (fun KK hKK => ?_) ?_
          · have hKS := Lib.hid hKK
            clear hKK
            go_simp
            refine (s2 _ _ hHeld p23).mono ?_
            rintro e w24 ⟨rfl, hx⟩
            go_wp2_with fail
            try replace p3 := p3.below hx
            try replace p12 := p12.below hx
            try replace p23 := p23.below hx
            try replace p26 := p26.below hx
            try replace p38 := p38.below hx
            try replace p42 := p42.below hx
            refine hKS.out.out _ _ (hHeld.below hx) (fun hHeld => ?_)
            clear hKS KK hx
            try simp only [Act.put, List.setIfInBounds_toArray, List.set_cons_zero, List.set_cons_succ]
            refine wpAnyH_ready (rs := [26]) (by kernel_rfl) (by simp) ?_
            refine AllReadyH.cons (o := { dst := some 58, op := Op.buildSlice 31 1 #[(0, Operand.tmp 57)], type := _, pos := _, after := _, guard := _ }) rfl (fun KK hKK => ?_) AllReadyH.nil
            have hKS := Lib.hid hKK
            clear hKK
            go_simp
            refine hKS.out.out _ _ (hHeld.below (grow _ _)) (fun hHeld => ?_)
            clear hKS KK
            have hx := grow w24 (Obj.cells #[.string b] 9)
            try replace p3 := p3.below hx
            try replace p12 := p12.below hx
            try replace p23 := p23.below hx
            try replace p38 := p38.below hx
            try replace p42 := p42.below hx
            have p26 := Pt.new1 w24 b
            clear hx
            generalize World.alloc w24 (Obj.cells #[.string b] 9) = v26 at *
            generalize World.heap w24 = h26 at *
            generalize h26.size = g26 at *
            try simp only [Act.put, List.setIfInBounds_toArray, List.set_cons_zero, List.set_cons_succ]
            refine wpAnyH_ready (rs := [27]) (by kernel_rfl) (by simp) ?_
            refine AllReadyH.cons (o := { dst := some 59, op := Op.call { callee := Callee.value (Operand.func 10), args := #[Operand.tmp 58], argTypes := #[31] }, type := _, pos := _, after := _, guard := _ }) rfl (fun KK hKK => ?_) AllReadyH.nil
            have hKS := Lib.hid hKK
            clear hKK
            go_simp
            refine (s1 _ _ hHeld p26).mono ?_
            rintro e w27 ⟨rfl, hx⟩
            go_wp2_with fail
            try replace p3 := p3.below hx
            try replace p12 := p12.below hx
            try replace p23 := p23.below hx
            try replace p26 := p26.below hx
            try replace p38 := p38.below hx
            try replace p42 := p42.below hx
            refine hKS.out.out _ _ (hHeld.below hx) (fun hHeld => ?_)
            clear hKS KK hx
            try simp only [Act.put, List.setIfInBounds_toArray, List.set_cons_zero, List.set_cons_succ]
            refine tk (i := 28) (oi := ⟨some 60, Op.binOp BinOp.eql 24 (.tmp 56) (.tmp 59) 24, _, _, _, _⟩) (v := .bool true) rfl hHeld (.inl ⟨rfl, fun wq hSw => exec_same D lD wq _ _ _ rfl rfl _ rfl⟩) ?_
            try simp only [Act.put, List.setIfInBounds_toArray, List.set_cons_zero, List.set_cons_succ]
            refine tk (i := 29) (oi := ⟨some 61, .pick (.tmp 48) (.tmp 60) (.const (Value.bool false)), _, _, _, _⟩) (v := ?_) rfl hHeld (.inl ⟨rfl, ?_⟩) ?_
            rotate_left
            · intro wq hSw; go_simp; rfl
            try simp only [Act.put, List.setIfInBounds_toArray, List.set_cons_zero, List.set_cons_succ]
            refine tk (i := 30) (oi := ⟨some 62, .move (.tmp 61), _, _, _, _⟩) (v := ?_) rfl hHeld (.inl ⟨rfl, ?_⟩) ?_
            rotate_left
            · intro wq hSw; go_simp; rfl
            try simp only [Act.put, List.setIfInBounds_toArray, List.set_cons_zero, List.set_cons_succ]
            exact joinUse (key3 g23 g26 _ hHeld)
          refine AllReadyH.cons (o := { dst := some 58, op := Op.buildSlice 31 1 #[(0, Operand.tmp 57)], type := _, pos := _, after := _, guard := _ }) rfl (fun KK hKK => ?_) AllReadyH.nil
          · have hKS := Lib.hid hKK
            clear hKK
            go_simp
            refine hKS.out.out _ _ (hHeld.below (grow _ _)) (fun hHeld => ?_)
            clear hKS KK
            have hx := grow v23 (Obj.cells #[.string b] 9)
            try replace p3 := p3.below hx
            try replace p12 := p12.below hx
            try replace p23 := p23.below hx
            try replace p38 := p38.below hx
            try replace p42 := p42.below hx
            have p26 := Pt.new1 v23 b
            clear hx
            generalize World.alloc v23 (Obj.cells #[.string b] 9) = v26 at *
            generalize World.heap v23 = h26 at *
            generalize h26.size = g26 at *
            try simp only [Act.put, List.setIfInBounds_toArray, List.set_cons_zero, List.set_cons_succ]
            refine wpAnyH_ready (rs := [24]) (by kernel_rfl) (by simp) ?_
            refine AllReadyH.cons (o := { dst := some 56, op := Op.call { callee := Callee.value (Operand.func 10), args := #[Operand.tmp 55], argTypes := #[31] }, type := _, pos := _, after := _, guard := _ }) rfl (fun KK hKK => ?_) AllReadyH.nil
            have hKS := Lib.hid hKK
            clear hKK
            go_simp
            refine (s2 _ _ hHeld p23).mono ?_
            rintro e w24 ⟨rfl, hx⟩
            go_wp2_with fail
            try replace p3 := p3.below hx
            try replace p12 := p12.below hx
            try replace p23 := p23.below hx
            try replace p26 := p26.below hx
            try replace p38 := p38.below hx
            try replace p42 := p42.below hx
            refine hKS.out.out _ _ (hHeld.below hx) (fun hHeld => ?_)
            clear hKS KK hx
            try simp only [Act.put, List.setIfInBounds_toArray, List.set_cons_zero, List.set_cons_succ]
            refine wpAnyH_ready (rs := [27]) (by kernel_rfl) (by simp) ?_
            refine AllReadyH.cons (o := { dst := some 59, op := Op.call { callee := Callee.value (Operand.func 10), args := #[Operand.tmp 58], argTypes := #[31] }, type := _, pos := _, after := _, guard := _ }) rfl (fun KK hKK => ?_) AllReadyH.nil
            have hKS := Lib.hid hKK
            clear hKK
            go_simp
            refine (s1 _ _ hHeld p26).mono ?_
            rintro e w27 ⟨rfl, hx⟩
            go_wp2_with fail
            try replace p3 := p3.below hx
            try replace p12 := p12.below hx
            try replace p23 := p23.below hx
            try replace p26 := p26.below hx
            try replace p38 := p38.below hx
            try replace p42 := p42.below hx
            refine hKS.out.out _ _ (hHeld.below hx) (fun hHeld => ?_)
            clear hKS KK hx
            try simp only [Act.put, List.setIfInBounds_toArray, List.set_cons_zero, List.set_cons_succ]
            refine tk (i := 28) (oi := ⟨some 60, Op.binOp BinOp.eql 24 (.tmp 56) (.tmp 59) 24, _, _, _, _⟩) (v := .bool true) rfl hHeld (.inl ⟨rfl, fun wq hSw => exec_same D lD wq _ _ _ rfl rfl _ rfl⟩) ?_
            try simp only [Act.put, List.setIfInBounds_toArray, List.set_cons_zero, List.set_cons_succ]
            refine tk (i := 29) (oi := ⟨some 61, .pick (.tmp 48) (.tmp 60) (.const (Value.bool false)), _, _, _, _⟩) (v := ?_) rfl hHeld (.inl ⟨rfl, ?_⟩) ?_
            rotate_left
            · intro wq hSw; go_simp; rfl
            try simp only [Act.put, List.setIfInBounds_toArray, List.set_cons_zero, List.set_cons_succ]
            refine tk (i := 30) (oi := ⟨some 62, .move (.tmp 61), _, _, _, _⟩) (v := ?_) rfl hHeld (.inl ⟨rfl, ?_⟩) ?_
            rotate_left
            · intro wq hSw; go_simp; rfl
            try simp only [Act.put, List.setIfInBounds_toArray, List.set_cons_zero, List.set_cons_succ]
            exact joinUse (key3 g23 g26 _ hHeld)
        refine AllReadyH.cons (o := { dst := some 58, op := Op.buildSlice 31 1 #[(0, Operand.tmp 57)], type := _, pos := _, after := _, guard := _ }) rfl (fun KK hKK => ?_) AllReadyH.nil
        · have hKS := Lib.hid hKK
          clear hKK
          go_simp
          refine hKS.out.out _ _ (hHeld.below (grow _ _)) (fun hHeld => ?_)
          clear hKS KK
          have hx := grow W3 (Obj.cells #[.string b] 9)
          try replace p3 := p3.below hx
          try replace p12 := p12.below hx
          try replace p23 := p23.below hx
          try replace p38 := p38.below hx
          try replace p42 := p42.below hx
          have p26 := Pt.new1 W3 b
          clear hx
          generalize World.alloc W3 (Obj.cells #[.string b] 9) = v26 at *
          generalize World.heap W3 = h26 at *
          generalize h26.size = g26 at *
          try simp only [Act.put, List.setIfInBounds_toArray, List.set_cons_zero, List.set_cons_succ]
          refine wpAnyH_ready (rs := [23]) (by kernel_rfl) (by simp) ?_
          refine AllReadyH.cons (o := { dst := some 55, op := Op.buildSlice 31 2 #[(0, Operand.tmp 51), (1, Operand.tmp 54)], type := _, pos := _, after := _, guard := _ }) rfl (fun KK hKK => ?_) AllReadyH.nil
          have hKS := Lib.hid hKK
          clear hKK
          go_simp
          refine hKS.out.out _ _ (hHeld.below (grow _ _)) (fun hHeld => ?_)
          clear hKS KK
          have hx := grow v26 (Obj.cells #[.string u, .string v] 9)
          try replace p3 := p3.below hx
          try replace p12 := p12.below hx
          try replace p26 := p26.below hx
          try replace p38 := p38.below hx
          try replace p42 := p42.below hx
          have p23 := Pt.new2 v26 u v
          clear hx
          generalize World.alloc v26 (Obj.cells #[.string u, .string v] 9) = v23 at *
          generalize World.heap v26 = h23 at *
          generalize h23.size = g23 at *
          try simp only [Act.put, List.setIfInBounds_toArray, List.set_cons_zero, List.set_cons_succ]
          refine wpAnyH_ready (rs := [24]) (by kernel_rfl) (by simp) ?_
          refine AllReadyH.cons (o := { dst := some 56, op := Op.call { callee := Callee.value (Operand.func 10), args := #[Operand.tmp 55], argTypes := #[31] }, type := _, pos := _, after := _, guard := _ }) rfl (fun KK hKK => ?_) AllReadyH.nil
          have hKS := Lib.hid hKK
          clear hKK
          go_simp
          refine (s2 _ _ hHeld p23).mono ?_
          rintro e w24 ⟨rfl, hx⟩
          go_wp2_with fail
          try replace p3 := p3.below hx
          try replace p12 := p12.below hx
          try replace p23 := p23.below hx
          try replace p26 := p26.below hx
          try replace p38 := p38.below hx
          try replace p42 := p42.below hx
          refine hKS.out.out _ _ (hHeld.below hx) (fun hHeld => ?_)
          clear hKS KK hx
          try simp only [Act.put, List.setIfInBounds_toArray, List.set_cons_zero, List.set_cons_succ]
          refine wpAnyH_ready (rs := [27]) (by kernel_rfl) (by simp) ?_
          refine AllReadyH.cons (o := { dst := some 59, op := Op.call { callee := Callee.value (Operand.func 10), args := #[Operand.tmp 58], argTypes := #[31] }, type := _, pos := _, after := _, guard := _ }) rfl (fun KK hKK => ?_) AllReadyH.nil
          have hKS := Lib.hid hKK
          clear hKK
          go_simp
          refine (s1 _ _ hHeld p26).mono ?_
          rintro e w27 ⟨rfl, hx⟩
          go_wp2_with fail
          try replace p3 := p3.below hx
          try replace p12 := p12.below hx
          try replace p23 := p23.below hx
          try replace p26 := p26.below hx
          try replace p38 := p38.below hx
          try replace p42 := p42.below hx
          refine hKS.out.out _ _ (hHeld.below hx) (fun hHeld => ?_)
          clear hKS KK hx
          try simp only [Act.put, List.setIfInBounds_toArray, List.set_cons_zero, List.set_cons_succ]
          refine tk (i := 28) (oi := ⟨some 60, Op.binOp BinOp.eql 24 (.tmp 56) (.tmp 59) 24, _, _, _, _⟩) (v := .bool true) rfl hHeld (.inl ⟨rfl, fun wq hSw => exec_same D lD wq _ _ _ rfl rfl _ rfl⟩) ?_
          try simp only [Act.put, List.setIfInBounds_toArray, List.set_cons_zero, List.set_cons_succ]
          refine tk (i := 29) (oi := ⟨some 61, .pick (.tmp 48) (.tmp 60) (.const (Value.bool false)), _, _, _, _⟩) (v := ?_) rfl hHeld (.inl ⟨rfl, ?_⟩) ?_
          rotate_left
          · intro wq hSw; go_simp; rfl
          try simp only [Act.put, List.setIfInBounds_toArray, List.set_cons_zero, List.set_cons_succ]
          refine tk (i := 30) (oi := ⟨some 62, .move (.tmp 61), _, _, _, _⟩) (v := ?_) rfl hHeld (.inl ⟨rfl, ?_⟩) ?_
          rotate_left
          · intro wq hSw; go_simp; rfl
          try simp only [Act.put, List.setIfInBounds_toArray, List.set_cons_zero, List.set_cons_succ]
          exact joinUse (key3 g23 g26 _ hHeld)
      dsimp only
      replace hHeld : Kf w0 W4 K := hHeld
      refine tk (i := 31) (oi := ⟨some 63, .load 28 (.tmp 3), _, _, _, _⟩) rfl hHeld (yl t28 (by rfl) _ rfl _ rfl (fun w1 h => h.k) lK) ?_
      try simp only [Act.put, List.setIfInBounds_toArray, List.set_cons_zero, List.set_cons_succ]
      refine tk (i := 32) (oi := ⟨some 64, .move (.tmp 7), _, _, _, _⟩) (v := ?_) rfl hHeld (.inl ⟨rfl, ?_⟩) ?_
      rotate_left
      · intro wq hSw; go_simp; rfl
      try simp only [Act.put, List.setIfInBounds_toArray, List.set_cons_zero, List.set_cons_succ]
      refine tk (i := 33) (oi := ⟨some 65, .move (.tmp 9), _, _, _, _⟩) (v := ?_) rfl hHeld (.inl ⟨rfl, ?_⟩) ?_
      rotate_left
      · intro wq hSw; go_simp; rfl
      try simp only [Act.put, List.setIfInBounds_toArray, List.set_cons_zero, List.set_cons_succ]
      refine tk (i := 34) (oi := ⟨some 66, .slice 9 (.tmp 64) none (some (.tmp 65)) none, _, _, _, _⟩) (v := ?_) rfl hHeld (.inl ⟨rfl, ?_⟩) ?_
      rotate_left
      · intro wq hSw; go_simp; rfl
      try simp only [Act.put, List.setIfInBounds_toArray, List.set_cons_zero, List.set_cons_succ]
      refine tk (i := 35) (oi := ⟨some 67, .move (.tmp 7), _, _, _, _⟩) (v := ?_) rfl hHeld (.inl ⟨rfl, ?_⟩) ?_
      rotate_left
      · intro wq hSw; go_simp; rfl
      try simp only [Act.put, List.setIfInBounds_toArray, List.set_cons_zero, List.set_cons_succ]
      refine tk (i := 36) (oi := ⟨some 68, .move (.tmp 9), _, _, _, _⟩) (v := ?_) rfl hHeld (.inl ⟨rfl, ?_⟩) ?_
      rotate_left
      · intro wq hSw; go_simp; rfl
      try simp only [Act.put, List.setIfInBounds_toArray, List.set_cons_zero, List.set_cons_succ]
      refine tk (i := 37) (oi := ⟨some 69, .slice 9 (.tmp 67) (some (.tmp 68)) none none, _, _, _, _⟩) (v := ?_) rfl hHeld (.inl ⟨rfl, ?_⟩) ?_
      rotate_left
      · intro wq hSw; go_simp; rfl
      try simp only [Act.put, List.setIfInBounds_toArray, List.set_cons_zero, List.set_cons_succ]
      refine tk (i := 40) (oi := ⟨some 72, .load 28 (.tmp 3), _, _, _, _⟩) rfl hHeld (yl t28 (by rfl) _ rfl _ rfl (fun w1 h => h.k) lK) ?_
      try simp only [Act.put, List.setIfInBounds_toArray, List.set_cons_zero, List.set_cons_succ]
      refine tk (i := 41) (oi := ⟨some 73, .move (.tmp 7), _, _, _, _⟩) (v := ?_) rfl hHeld (.inl ⟨rfl, ?_⟩) ?_
      rotate_left
      · intro wq hSw; go_simp; rfl
      try simp only [Act.put, List.setIfInBounds_toArray, List.set_cons_zero, List.set_cons_succ]
      refine wpAnyH_ready (rs := [38, 42]) (by kernel_rfl) (by simp) ?_
      refine AllReadyH.cons (o := { dst := some 70, op := Op.buildSlice 31 3 #[(0, Operand.tmp 66), (1, Operand.const (Value.string { data := #[] })), (2, Operand.tmp 69)], type := _, pos := _, after := _, guard := _ }) rfl (fun KK hKK => ?_) ?_
      · have hKS := Lib.hid hKK
        clear hKK
        go_simp
        refine hKS.out.out _ _ (hHeld.below (grow _ _)) (fun hHeld => ?_)
        clear hKS KK
        have hx := grow W4 (Obj.cells #[.string u, .string ⟨#[]⟩, .string v] 9)
        try replace p3 := p3.below hx
        try replace p12 := p12.below hx
        try replace p23 := p23.below hx
        try replace p26 := p26.below hx
        try replace p42 := p42.below hx
        have p38 := Pt.new3 W4 u ⟨#[]⟩ v
        clear hx
        generalize World.alloc W4 (Obj.cells #[.string u, .string ⟨#[]⟩, .string v] 9) = v38 at *
        generalize World.heap W4 = h38 at *
        generalize h38.size = g38 at *
        try simp only [Act.put, List.setIfInBounds_toArray, List.set_cons_zero, List.set_cons_succ]
        refine wpAnyH_ready (rs := [39, 42]) (by kernel_rfl) (by simp) ?_
        refine AllReadyH.cons (o := { dst := some 71, op := Op.call { callee := Callee.value (Operand.func 12), args := #[Operand.tmp 63, Operand.tmp 70], argTypes := #[28, 31] }, type := _, pos := _, after := _, guard := _ }) rfl (fun KK hKK => ?_) ?_
        · have hKS := Lib.hid hKK
          clear hKK
          go_simp
          refine (k3 _ _ hHeld p38).mono ?_
          rintro e w39 ⟨rfl, hx⟩
          go_wp2_with fail
          try replace p3 := p3.below hx
          try replace p12 := p12.below hx
          try replace p23 := p23.below hx
          try replace p26 := p26.below hx
          try replace p38 := p38.below hx
          try replace p42 := p42.below hx
          refine hKS.out.out _ _ (hHeld.below hx) (fun hHeld => ?_)
          clear hKS KK hx
          try simp only [Act.put, List.setIfInBounds_toArray, List.set_cons_zero, List.set_cons_succ]
          refine wpAnyH_ready (rs := [42]) (by kernel_rfl) (by simp) ?_
          refine AllReadyH.cons (o := { dst := some 74, op := Op.buildSlice 31 1 #[(0, Operand.tmp 73)], type := _, pos := _, after := _, guard := _ }) rfl (fun KK hKK => ?_) AllReadyH.nil
          have hKS := Lib.hid hKK
          clear hKK
          go_simp
          refine hKS.out.out _ _ (hHeld.below (grow _ _)) (fun hHeld => ?_)
          clear hKS KK
          have hx := grow w39 (Obj.cells #[.string b] 9)
          try replace p3 := p3.below hx
          try replace p12 := p12.below hx
          try replace p23 := p23.below hx
          try replace p26 := p26.below hx
          try replace p38 := p38.below hx
          have p42 := Pt.new1 w39 b
          clear hx
          generalize World.alloc w39 (Obj.cells #[.string b] 9) = v42 at *
          generalize World.heap w39 = h42 at *
          generalize h42.size = g42 at *
          try simp only [Act.put, List.setIfInBounds_toArray, List.set_cons_zero, List.set_cons_succ]
          refine wpAnyH_ready (rs := [43]) (by kernel_rfl) (by simp) ?_
          refine AllReadyH.cons (o := { dst := some 75, op := Op.call { callee := Callee.value (Operand.func 12), args := #[Operand.tmp 72, Operand.tmp 74], argTypes := #[28, 31] }, type := _, pos := _, after := _, guard := _ }) rfl (fun KK hKK => ?_) AllReadyH.nil
          have hKS := Lib.hid hKK
          clear hKK
          go_simp
          refine (k1 _ _ hHeld p42).mono ?_
          rintro e w43 ⟨rfl, hx⟩
          go_wp2_with fail
          try replace p3 := p3.below hx
          try replace p12 := p12.below hx
          try replace p23 := p23.below hx
          try replace p26 := p26.below hx
          try replace p38 := p38.below hx
          try replace p42 := p42.below hx
          refine hKS.out.out _ _ (hHeld.below hx) (fun hHeld => ?_)
          clear hKS KK hx
          try simp only [Act.put, List.setIfInBounds_toArray, List.set_cons_zero, List.set_cons_succ]
          refine tk (i := 44) (oi := ⟨some 76, Op.binOp BinOp.eql 24 (.tmp 71) (.tmp 75) 24, _, _, _, _⟩) (v := .bool true) rfl hHeld (.inl ⟨rfl, fun wq hSw => exec_same E lE wq _ _ _ rfl rfl _ rfl⟩) ?_
          try simp only [Act.put, List.setIfInBounds_toArray, List.set_cons_zero, List.set_cons_succ]
          refine tk (i := 45) (oi := ⟨some 77, .pick (.tmp 62) (.tmp 76) (.const (Value.bool false)), _, _, _, _⟩) (v := ?_) rfl hHeld (.inl ⟨rfl, ?_⟩) ?_
          rotate_left
          · intro wq hSw; go_simp; rfl
          try simp only [Act.put, List.setIfInBounds_toArray, List.set_cons_zero, List.set_cons_succ]
          refine tk (i := 46) (oi := ⟨some 6, Op.assign (.tmp 77), _, _, _, _⟩) (v := ?_) rfl hHeld (.inl ⟨rfl, ?_⟩) ?_
          rotate_left
          · intro wq hSw; go_simp; rfl
          try simp only [Act.put, List.setIfInBounds_toArray, List.set_cons_zero, List.set_cons_succ]
          refine wpAnyH_done (by kernel_rfl) ?_ _
          go_wp2_with fail
          go_ret
          exact ⟨rfl, hHeld.b⟩
        refine AllReadyH.cons (o := { dst := some 74, op := Op.buildSlice 31 1 #[(0, Operand.tmp 73)], type := _, pos := _, after := _, guard := _ }) rfl (fun KK hKK => ?_) AllReadyH.nil
        · have hKS := Lib.hid hKK
          clear hKK
          go_simp
          refine hKS.out.out _ _ (hHeld.below (grow _ _)) (fun hHeld => ?_)
          clear hKS KK
          have hx := grow v38 (Obj.cells #[.string b] 9)
          try replace p3 := p3.below hx
          try replace p12 := p12.below hx
          try replace p23 := p23.below hx
          try replace p26 := p26.below hx
          try replace p38 := p38.below hx
          have p42 := Pt.new1 v38 b
          clear hx
          generalize World.alloc v38 (Obj.cells #[.string b] 9) = v42 at *
          generalize World.heap v38 = h42 at *
          generalize h42.size = g42 at *
          try simp only [Act.put, List.setIfInBounds_toArray, List.set_cons_zero, List.set_cons_succ]
          refine wpAnyH_ready (rs := [39]) (by kernel_rfl) (by simp) ?_
          refine AllReadyH.cons (o := { dst := some 71, op := Op.call { callee := Callee.value (Operand.func 12), args := #[Operand.tmp 63, Operand.tmp 70], argTypes := #[28, 31] }, type := _, pos := _, after := _, guard := _ }) rfl (fun KK hKK => ?_) AllReadyH.nil
          have hKS := Lib.hid hKK
          clear hKK
          go_simp
          refine (k3 _ _ hHeld p38).mono ?_
          rintro e w39 ⟨rfl, hx⟩
          go_wp2_with fail
          try replace p3 := p3.below hx
          try replace p12 := p12.below hx
          try replace p23 := p23.below hx
          try replace p26 := p26.below hx
          try replace p38 := p38.below hx
          try replace p42 := p42.below hx
          refine hKS.out.out _ _ (hHeld.below hx) (fun hHeld => ?_)
          clear hKS KK hx
          try simp only [Act.put, List.setIfInBounds_toArray, List.set_cons_zero, List.set_cons_succ]
          refine wpAnyH_ready (rs := [43]) (by kernel_rfl) (by simp) ?_
          refine AllReadyH.cons (o := { dst := some 75, op := Op.call { callee := Callee.value (Operand.func 12), args := #[Operand.tmp 72, Operand.tmp 74], argTypes := #[28, 31] }, type := _, pos := _, after := _, guard := _ }) rfl (fun KK hKK => ?_) AllReadyH.nil
          have hKS := Lib.hid hKK
          clear hKK
          go_simp
          refine (k1 _ _ hHeld p42).mono ?_
          rintro e w43 ⟨rfl, hx⟩
          go_wp2_with fail
          try replace p3 := p3.below hx
          try replace p12 := p12.below hx
          try replace p23 := p23.below hx
          try replace p26 := p26.below hx
          try replace p38 := p38.below hx
          try replace p42 := p42.below hx
          refine hKS.out.out _ _ (hHeld.below hx) (fun hHeld => ?_)
          clear hKS KK hx
          try simp only [Act.put, List.setIfInBounds_toArray, List.set_cons_zero, List.set_cons_succ]
          refine tk (i := 44) (oi := ⟨some 76, Op.binOp BinOp.eql 24 (.tmp 71) (.tmp 75) 24, _, _, _, _⟩) (v := .bool true) rfl hHeld (.inl ⟨rfl, fun wq hSw => exec_same E lE wq _ _ _ rfl rfl _ rfl⟩) ?_
          try simp only [Act.put, List.setIfInBounds_toArray, List.set_cons_zero, List.set_cons_succ]
          refine tk (i := 45) (oi := ⟨some 77, .pick (.tmp 62) (.tmp 76) (.const (Value.bool false)), _, _, _, _⟩) (v := ?_) rfl hHeld (.inl ⟨rfl, ?_⟩) ?_
          rotate_left
          · intro wq hSw; go_simp; rfl
          try simp only [Act.put, List.setIfInBounds_toArray, List.set_cons_zero, List.set_cons_succ]
          refine tk (i := 46) (oi := ⟨some 6, Op.assign (.tmp 77), _, _, _, _⟩) (v := ?_) rfl hHeld (.inl ⟨rfl, ?_⟩) ?_
          rotate_left
          · intro wq hSw; go_simp; rfl
          try simp only [Act.put, List.setIfInBounds_toArray, List.set_cons_zero, List.set_cons_succ]
          refine wpAnyH_done (by kernel_rfl) ?_ _
          go_wp2_with fail
          go_ret
          exact ⟨rfl, hHeld.b⟩
      refine AllReadyH.cons (o := { dst := some 74, op := Op.buildSlice 31 1 #[(0, Operand.tmp 73)], type := _, pos := _, after := _, guard := _ }) rfl (fun KK hKK => ?_) AllReadyH.nil
      · have hKS := Lib.hid hKK
        clear hKK
        go_simp
        refine hKS.out.out _ _ (hHeld.below (grow _ _)) (fun hHeld => ?_)
        clear hKS KK
        have hx := grow W4 (Obj.cells #[.string b] 9)
        try replace p3 := p3.below hx
        try replace p12 := p12.below hx
        try replace p23 := p23.below hx
        try replace p26 := p26.below hx
        try replace p38 := p38.below hx
        have p42 := Pt.new1 W4 b
        clear hx
        generalize World.alloc W4 (Obj.cells #[.string b] 9) = v42 at *
        generalize World.heap W4 = h42 at *
        generalize h42.size = g42 at *
        try simp only [Act.put, List.setIfInBounds_toArray, List.set_cons_zero, List.set_cons_succ]
        refine wpAnyH_ready (rs := [38]) (by kernel_rfl) (by simp) ?_
        refine AllReadyH.cons (o := { dst := some 70, op := Op.buildSlice 31 3 #[(0, Operand.tmp 66), (1, Operand.const (Value.string { data := #[] })), (2, Operand.tmp 69)], type := _, pos := _, after := _, guard := _ }) rfl (fun KK hKK => ?_) AllReadyH.nil
        have hKS := Lib.hid hKK
        clear hKK
        go_simp
        refine hKS.out.out _ _ (hHeld.below (grow _ _)) (fun hHeld => ?_)
        clear hKS KK
        have hx := grow v42 (Obj.cells #[.string u, .string ⟨#[]⟩, .string v] 9)
        try replace p3 := p3.below hx
        try replace p12 := p12.below hx
        try replace p23 := p23.below hx
        try replace p26 := p26.below hx
        try replace p42 := p42.below hx
        have p38 := Pt.new3 v42 u ⟨#[]⟩ v
        clear hx
        generalize World.alloc v42 (Obj.cells #[.string u, .string ⟨#[]⟩, .string v] 9) = v38 at *
        generalize World.heap v42 = h38 at *
        generalize h38.size = g38 at *
        try simp only [Act.put, List.setIfInBounds_toArray, List.set_cons_zero, List.set_cons_succ]
        refine wpAnyH_ready (rs := [39]) (by kernel_rfl) (by simp) ?_
        refine AllReadyH.cons (o := { dst := some 71, op := Op.call { callee := Callee.value (Operand.func 12), args := #[Operand.tmp 63, Operand.tmp 70], argTypes := #[28, 31] }, type := _, pos := _, after := _, guard := _ }) rfl (fun KK hKK => ?_) AllReadyH.nil
        have hKS := Lib.hid hKK
        clear hKK
        go_simp
        refine (k3 _ _ hHeld p38).mono ?_
        rintro e w39 ⟨rfl, hx⟩
        go_wp2_with fail
        try replace p3 := p3.below hx
        try replace p12 := p12.below hx
        try replace p23 := p23.below hx
        try replace p26 := p26.below hx
        try replace p38 := p38.below hx
        try replace p42 := p42.below hx
        refine hKS.out.out _ _ (hHeld.below hx) (fun hHeld => ?_)
        clear hKS KK hx
        try simp only [Act.put, List.setIfInBounds_toArray, List.set_cons_zero, List.set_cons_succ]
        refine wpAnyH_ready (rs := [43]) (by kernel_rfl) (by simp) ?_
        refine AllReadyH.cons (o := { dst := some 75, op := Op.call { callee := Callee.value (Operand.func 12), args := #[Operand.tmp 72, Operand.tmp 74], argTypes := #[28, 31] }, type := _, pos := _, after := _, guard := _ }) rfl (fun KK hKK => ?_) AllReadyH.nil
        have hKS := Lib.hid hKK
        clear hKK
        go_simp
        refine (k1 _ _ hHeld p42).mono ?_
        rintro e w43 ⟨rfl, hx⟩
        go_wp2_with fail
        try replace p3 := p3.below hx
        try replace p12 := p12.below hx
        try replace p23 := p23.below hx
        try replace p26 := p26.below hx
        try replace p38 := p38.below hx
        try replace p42 := p42.below hx
        refine hKS.out.out _ _ (hHeld.below hx) (fun hHeld => ?_)
        clear hKS KK hx
        try simp only [Act.put, List.setIfInBounds_toArray, List.set_cons_zero, List.set_cons_succ]
        refine tk (i := 44) (oi := ⟨some 76, Op.binOp BinOp.eql 24 (.tmp 71) (.tmp 75) 24, _, _, _, _⟩) (v := .bool true) rfl hHeld (.inl ⟨rfl, fun wq hSw => exec_same E lE wq _ _ _ rfl rfl _ rfl⟩) ?_
        try simp only [Act.put, List.setIfInBounds_toArray, List.set_cons_zero, List.set_cons_succ]
        refine tk (i := 45) (oi := ⟨some 77, .pick (.tmp 62) (.tmp 76) (.const (Value.bool false)), _, _, _, _⟩) (v := ?_) rfl hHeld (.inl ⟨rfl, ?_⟩) ?_
        rotate_left
        · intro wq hSw; go_simp; rfl
        try simp only [Act.put, List.setIfInBounds_toArray, List.set_cons_zero, List.set_cons_succ]
        refine tk (i := 46) (oi := ⟨some 6, Op.assign (.tmp 77), _, _, _, _⟩) (v := ?_) rfl hHeld (.inl ⟨rfl, ?_⟩) ?_
        rotate_left
        · intro wq hSw; go_simp; rfl
        try simp only [Act.put, List.setIfInBounds_toArray, List.set_cons_zero, List.set_cons_succ]
        refine wpAnyH_done (by kernel_rfl) ?_ _
        go_wp2_with fail
        go_ret
        exact ⟨rfl, hHeld.b⟩

set_option maxRecDepth 100000 in
theorem lifted (os : Os) (started : os.Started) (H : Type) (enc : TypeId × Value → H) :
    ReturnsInHanded {} Tryd.checked os 5 .any (fun w args => (Rows.hashPartsSpec.pre enc Tryd.prog Tryd.f5 [] false w args ∧ laidMetH Tryd.prog laid2 w) ∧ sizedMet enc Tryd.prog Tryd.f5 (OpenSpec.ofChange Rows.hashPartsSpec) false w args)
      (Rows.hashPartsSpec.post enc Tryd.prog Tryd.f5 false true false false) := by
  refine returnsInHanded_of_change_and (C := Tryd.checked) (X := fun w _ => laidMetH Tryd.prog laid2 w) (fun _ _ _ hh h => h.of_heap hh) own started (by kernel_rfl) Tryd.func5
    (ChangeSpec.witness_shaped (enc := enc) (C := Tryd.checked) (os := os) (X := fun w _ => laidMetH Tryd.prog laid2 w) false (World.doorLaid Tryd.prog 400 os) #[.agg (Array.replicate 32 (.int .u8 0)), .slice none 0 0, .int .u16 0] 8 rfl (World.shaped_of_RefB (by kernel_rfl) (by kernel_rfl)) (by kernel_rfl) (by kernel_rfl) (by kernel_rfl) (door_met os _)) ?_
  intro W base args ds gs before hval0 hW _ _ hL _
  have hval : ∀ (j : Nat) t v, Tryd.f5.params[j]? = some t → args[j]? = some v → Value.okWide Tryd.prog W .any base t v := hval0
  have hW' := hW
  obtain ⟨p, q, hA0, hV, rfl, hfz, hnd⟩ := hW
  have hA : DataW.TrodAll enc Tryd.prog W 0 (fun _ => true) true Tryd.f5.params.toList args.toList ds p := hA0
  rw [Tryd.params5] at hA hval
  obtain ⟨v0, vs0, d0, ds0, p0, q0, hargs, rfl, rfl, h0, r0⟩ := trodAll_cons hA
  obtain ⟨v1, vs1, d1, ds1, p1, q1, rfl, rfl, rfl, h1, r1⟩ := trodAll_cons r0
  obtain ⟨v2, vs2, d2, ds2, p2, q2, rfl, rfl, rfl, h2, r2⟩ := trodAll_cons r1
  obtain ⟨rfl, rfl, rfl⟩ := trodAll_nil r2
  obtain rfl : args = #[v0, v1, v2] := by cases args; simp_all
  obtain ⟨rfl, rfl⟩ := trodVars_none hV
  obtain ⟨K0, rfl, l0, b0⟩ := okKey (hval 0 28 v0 rfl rfl)
  have k0 := h0
  have lt0 : ∀ x ∈ p0, x.block < W.heap.size := by obtain ⟨m, hm⟩ := k0; exact DataW.trod_lt m _ _ _ hm
  have k1 := h1
  have lt1 : ∀ x ∈ p1, x.block < W.heap.size := by obtain ⟨m, hm⟩ := k1; exact DataW.trod_lt m _ _ _ hm
  obtain ⟨A1, c1, xs1, rfl, pt1, lc1, lm1, ls1⟩ := okStrs (hval 1 31 v1 rfl rfl) h1
  obtain ⟨n2, rfl, rfl, rfl, w2⟩ := open_int Tryd.underlying33 (hval 2 33 v2 rfl rfl) h2
  obtain ⟨m2, rfl, z2⟩ := nat_u16 w2
  have hT := of_laid hL
  clear hA0 hval0
  refine (walk K0 A1 xs1 c1 m2 b0 l0 pt1 lc1 lm1 ls1 z2 W hT rfl).mono fun e W' ⟨he, bel⟩ => ?_
  subst he
  exact ⟨_, rfl, _, _, _, [], _, [], hW', trodAll_mk1 (shut_bool Tryd.underlying4 _), (trodAll_cons_mk (Below.trod laidOut (by kernel_rfl) (of_decide_eq_true (by kernel_rfl)) k0 bel lt0) (trodAll_cons_mk (Below.trod laidOut (by kernel_rfl) (of_decide_eq_true (by kernel_rfl)) k1 bel lt1) (trodAll_cons_mk (shut_int Tryd.underlying33 w2) trodAll_mk0))), rfl, bel.frame _, fun h => by cases h⟩

theorem bare : Rows.HashPartsSaid :=
  OpenClaim.holds_of_wide 5 Tryd.f5 rfl rfl rfl rfl rfl rfl rfl ⟨rfl, rfl, rfl, rfl, rfl⟩ rfl rfl rfl rfl rfl (by kernel_rfl) Tryd.func5 (by kernel_rfl)
    (of_decide_eq_true (by kernel_rfl)) (by unfold Func.isWrapper; first | (rw [if_pos (by decide +kernel)]; kernel_rfl) | (rw [if_neg (by decide +kernel)]; exact ⟨rfl, rfl⟩))
    (fun os started H enc _ => lifted os started H enc)

/-- the statement -/
theorem proved : Rows.HashPartsCardSaid :=
  Claim7.holds_tied_plain_at .later [] [.data, .data] true Rows.hashPartsCard.stood.harness false
    bare (fun _ h => by cases h) (by kernel_rfl) (fun _ h => by cases h) hashParts_row_tie rfl ⟨rfl, rfl⟩ (by kernel_rfl) rfl
    (fun f fn hf hfn => by
      obtain rfl : f = 5 := Option.some.inj ((show Tryd.prog.funcNamed "hibernacle/hibernaclelaw02.HashParts" = some 5 by kernel_rfl).symm.trans hf) |>.symm
      obtain rfl : fn = Tryd.f5 := (Option.some.inj (Tryd.func5.symm.trans hfn)).symm
      exact ⟨by kernel_rfl, fun j t ht => by
        rw [Tryd.params5] at ht
        have hm : t ∈ [28, 31, 33] := by simpa using Array.mem_of_getElem? ht
        have hall : ([28, 31, 33].all fun u => !Tryd.prog.wantsStandIn u) = true := by kernel_rfl
        exact (show Tryd.prog.wantsStandIn t = false by simpa using List.all_eq_true.1 hall t hm)⟩)
    (by kernel_rfl)
end Go.Proofs.YtaabefafafdndaaDoor.hashParts
