/-
  THE WALK of a digest of parts under a key, of the document's answer.
-/
import Derived.Test.YtaoaebdjinlcnaaDoorKy
set_option linter.unusedVariables false
set_option linter.unusedSimpArgs false
set_option maxRecDepth 100000
namespace Go.Proofs.YtaoaebdjinlcnaaDoor
open Go.RowKit
theorem Hr.only {w wr w1 : World} {B r h n : Nat} {H : List Nat} (o : Hr w wr B r h H) (hx : Only n wr w1) (hh : h < n) (hr : r < n) : Hr w w1 B r h H := o.below2 (hx.below (Nat.le_refl _)) hh hr
set_option maxRecDepth 100000 in
set_option maxHeartbeats 1000000 in
theorem rkeyed_any (K : List Nat) (a : Option Addr) (xs : List ByteArray) (c : Nat) (w : World) (hK : Bl.By K) (lK : K.length = 32) (hp : Pts w a xs) (hN : xs.length ≤ 1000000000) (hc : xs.length ≤ c) (hl : (cat xs).length ≤ 1000000000) :
    Calls Tryd.prog 44 #[.agg (vs .u8 K), .slice a xs.length c] w fun e w' => e = .returned (.agg (vs .u8 (Bl.keyed K (cat xs)))) ∧ Below w.heap.size w w' := by
  obtain ⟨V0, hV0⟩ : ∃ V0, V0 = (w.alloc (Obj.cells (vs .u8 K) 24)).alloc (Obj.cells (vs .u8 (List.replicate 32 0)) 64) := ⟨_, rfl⟩
  have hb1 : Below w.heap.size w V0 := by rw [hV0]; exact ((Below.refl _ w).alloc (Nat.le_refl _) _).alloc (by simp) _
  have oK : Own V0 w.heap.size 24 (vs .u8 K) := by rw [hV0]; exact (Own.new _ _ _).alloc _
  have o1 : Own V0 (w.heap.size + 1) 64 (vs .u8 (List.replicate 32 0)) := by rw [hV0]; exact Own.new' _ _ _ (by simp)
  have lD : (Bl.keyed K (cat xs)).length = 32 := Bl.digest_length _ _
  obtain ⟨F, hF⟩ : ∃ F, F = K ++ List.replicate 32 0 := ⟨_, rfl⟩
  have lF : F.length = 64 := by rw [hF, List.length_append, lK, List.length_replicate]
  have bF : Bl.By F := fun x hx => by
    rw [hF] at hx
    rcases List.mem_append.1 hx with hx | hx
    · exact hK x hx
    · rw [List.eq_of_mem_replicate hx]; decide
  have nF : ∀ i, i < 32 → Bl.nth F i = Bl.nth K i := fun i hi => by rw [hF, Bl.nth_lt (by rw [List.length_append]; omega), Bl.nth_lt (by omega), List.getElem_append_left]
  have eF : prn 64 F 32 = F := by rw [hF, prn, List.take_append_of_le_length (by omega), List.take_of_length_le (by omega)]
  have hb : Bl.By (F ++ cat xs) := fun x hx => by
    rcases List.mem_append.1 hx with hx | hx
    · exact bF x hx
    · exact cat_by xs x hx
  have hd : ∀ w1, Calls Tryd.prog 63 #[.agg (vs .u32 Bl.hk), .string (bs F ++ bs (cat xs))] w1 fun e w' => e = .returned (.agg (vs .u8 (Bl.keyed K (cat xs)))) ∧ Below w1.heap.size w1 w' := fun w1 => by
    have := rdigest_any Bl.hk (bs (F ++ cat xs)) Bl.hk_ok (by rw [bs_size, List.length_append]; omega) w1
    rw [tn_bs hb, bs_append] at this; rw [Bl.keyed, ← hF]; exact this
  have hj := fun w1 (h : Below w.heap.size w w1) => joined_any a xs c w1 (hp.below h) hN hl
  have lb : ¬ 9223372036854775807 < (bs F).size + (bs (cat xs)).size := by rw [bs_size, bs_size]; omega
  have HF := Lib.hid (And.intro hF (And.intro nF (And.intro eF bF)))
  clear hF nF eF bF hb
  generalize Bl.keyed K (cat xs) = D at *
  generalize bs (cat xs) = b at *
  have HV0 := Lib.hid hV0
  clear hV0
  go_enter Tryd.func44, Tryd.ntmps44
  go_wp2_with fail
  change Calls _ _ _ ((w.alloc (Obj.cells (vs .u8 K) 24)).alloc (Obj.cells (vs .u8 (List.replicate 32 0)) 64)) _
  rw [← HV0.out]
  clear HV0
  refine (eight_any _).mono ?_
  rintro e w1 ⟨rfl, hx⟩
  obtain ⟨g, hg⟩ : ∃ g, g = w1.heap.size := ⟨_, rfl⟩
  have hz := hx.size
  have hlt := o1.lt
  obtain ⟨W0, hW0⟩ : ∃ W0, W0 = w1.alloc (Obj.cells (vs .u32 Bl.iv) 88) := ⟨_, rfl⟩
  have z0 : W0.heap.size = g + 1 := by rw [hW0, hg]; simp
  have s0 : Hr w W0 w.heap.size (w.heap.size + 1) g Bl.iv := by
    rw [hW0]; exact ⟨Own.new' _ _ _ hg, (Below.own hx o1 (by omega)).alloc _, by omega, by omega, by omega, (hb1.trans (hx.mono (by omega))).alloc (by omega) _⟩
  have k0 : Own W0 w.heap.size 24 (vs .u8 K) := by rw [hW0]; exact (Below.own hx oK (by omega)).alloc _
  have hgB : w.heap.size + 1 < g := by omega
  have cz := s0.oh.cell (i := 0) (by decide)
  have zz := s0.oh.frozen 0
  have s1 := s0.set 0 (Bl.nth Bl.iv 0 ^^^ 16842784 ^^^ 8192)
  have k1 := k0.other ⟨g, 0, none⟩ (.int .u32 ((Bl.nth Bl.iv 0 ^^^ 16842784 ^^^ 8192 : Nat) : Int)) (by simp <;> omega)
  change Hr w _ _ _ _ Bl.hk at s1
  have HW0 := Lib.hid hW0
  have HG := Lib.hid hg
  clear hW0 hx hz hlt hb1 o1 oK hg
  go_wp2_with (refine sto_new (l := Bl.iv) t42 rfl rfl rfl (by simp) rfl rfl rfl ?_; rw [← HW0.out, ← HG.out])
  rw [show bits BinOp.xor IntKind.u32 (bits BinOp.xor IntKind.u32 ((Bl.nth Bl.iv 0 : Nat) : Int) 16842784) 8192 = ((Bl.nth Bl.iv 0 ^^^ 16842784 ^^^ 8192 : Nat) : Int) from by decide]
  obtain ⟨W1, hW1⟩ : ∃ W1, W1 = W0.setCell ⟨g, 0, none⟩ (.int .u32 ((Bl.nth Bl.iv 0 ^^^ 16842784 ^^^ 8192 : Nat) : Int)) := ⟨_, rfl⟩
  have z1 : W1.heap.size = g + 1 := by rw [hW1]; simp [z0]
  rw [← hW1] at s1 k1 ⊢
  clear hW1 HW0 HG s0 k0 cz zz z0
  generalize hBB : w.heap.size = B at *
  obtain ⟨W2, hW2⟩ : ∃ W2, W2 = W1.alloc (Obj.cells (vs .u8 (List.replicate 64 0)) 90) := ⟨_, rfl⟩
  have st : Hr w W2 B (B + 1) g Bl.hk := by rw [hW2]; exact s1.alloc _
  have k2 : Own W2 B 24 (vs .u8 K) := by rw [hW2]; exact k1.alloc _
  have oF : Own W2 (g + 1) 90 (vs .u8 (prn 64 F 0)) := by rw [hW2, prn_zero]; exact Own.new' _ _ _ z1.symm
  change Code.wp _ _ _ _ (W1.alloc (Obj.cells (vs .u8 (List.replicate 64 0)) 90))
  rw [← hW2]
  clear hW2 s1 k1 z1
  go_loopw [7] (fun i' wr => ∃ j : Nat, j ≤ 32 ∧ i' = .int .i64 j ∧ Own wr (g + 1) 90 (vs .u8 (prn 64 F j)) ∧ Only (g + 1) W2 wr) (fun i _ => 32 - (intOf i).toNat)
  case atStart => exact ⟨0, by omega, rfl, oF, Only.refl _ _⟩
  case round =>
    clear oF
    obtain ⟨j, hj32, rfl, oF, ho⟩ := hrel
    generalize wr = wo at *
    by_cases hlt : j < 32
    · have hji : (j : Int) < 32 := by omega
      have hji2 : (j : Int) < 64 := by omega
      have oK := ho.own k2 (by omega)
      have ck := oK.cell (i := j) (by omega)
      have cf := oF.cell (i := j) (by rw [prn_length lF (by omega)]; omega)
      have zf := oF.frozen j
      rw [← HF.out.2.1 j hlt] at ck
      have s1 := oF.set j (Bl.nth F j)
      have h1 := ho.set j (.int .u8 (Bl.nth F j : Nat))
      rw [prn_next lF (by omega)] at s1
      clear oF ho oK
      go_wp2_with fail
      go_roundw
      case rel => exact ⟨j + 1, by omega, by go_num, s1, h1⟩
      case measure => simp [intOf]; omega
    · obtain rfl : j = 32 := by omega
      simp only [show ((32 : Nat) : Int) = 32 from rfl]
      rw [HF.out.2.2.1] at oF
      replace st := st.only ho (by omega) (by omega)
      clear k2 ho
      go_wp2_with fail
      have cv := bs_conv wo.drew (g + 1) 90 F 64 lF oF.drew
      refine wp_region_any (by kernel_rfl) ?_
      change wpAny _ _ _ _ _ _ _ wo.drew
      replace st := st.drew
      clear oF
      refine wpAny_take (i := 1) (oi := { dst := some 24, op := Op.slice 90 (Operand.tmp 6) none none none, type := _, pos := _, after := _, guard := _ }) (v := ?_) rfl (by kernel_rfl) (by kernel_rfl) (by kernel_rfl) (fun _ _ _ h => h) (Or.inl ⟨by rfl, ?_⟩) ?_
      rotate_left
      · intro wq
        go_simp
        rfl
      try simp only [Act.put, List.setIfInBounds_toArray, List.set_cons_zero, List.set_cons_succ]
      refine wpAny_take (i := 3) (oi := { dst := some 26, op := Op.move (Operand.tmp 1), type := _, pos := _, after := _, guard := _ }) (v := ?_) rfl (by kernel_rfl) (by kernel_rfl) (by kernel_rfl) (fun _ _ _ h => h) (Or.inl ⟨by rfl, ?_⟩) ?_
      rotate_left
      · intro wq
        go_simp
        rfl
      try simp only [Act.put, List.setIfInBounds_toArray, List.set_cons_zero, List.set_cons_succ]
      refine wpAny_ready (rs := [0, 2, 4]) (by kernel_rfl) (by simp) ?_
      refine AllReady.cons (o := { dst := some 23, op := Op.load 88 (Operand.tmp 5), type := _, pos := _, after := _, guard := _ }) rfl (fun KK hKK => ?_) ?_
      · have hKS := Lib.hid hKK
        clear hKK
        rw [if_pos (by rfl)]
        refine lw t42 _ rfl _ rfl st.oh Bl.hk_ok.1 ?_
        refine hKS.out _ _ ?_
        clear hKS KK
        try simp only [Act.put, List.setIfInBounds_toArray, List.set_cons_zero, List.set_cons_succ]
        refine wpAny_ready (rs := [2, 4]) (by kernel_rfl) (by simp) ?_
        refine AllReady.cons (o := { dst := some 25, op := Op.convert 45 9 (Operand.tmp 24), type := _, pos := _, after := _, guard := _ }) rfl (fun KK hKK => ?_) ?_
        · have hKS := Lib.hid hKK
          clear hKK
          go_simp
          refine hKS.out _ _ ?_
          clear hKS KK
          try simp only [Act.put, List.setIfInBounds_toArray, List.set_cons_zero, List.set_cons_succ]
          refine wpAny_ready (rs := [4]) (by kernel_rfl) (by simp) ?_
          refine AllReady.cons (o := { dst := some 27, op := Op.call { callee := Callee.value (Operand.func 64), args := #[Operand.tmp 26], argTypes := #[36] }, type := _, pos := _, after := _, guard := _ }) rfl (fun KK hKK => ?_) AllReady.nil
          have hKS := Lib.hid hKK
          clear hKK
          go_simp
          refine (hj _ st.b).mono ?_
          rintro e w2 ⟨rfl, rfl⟩
          go_wp2_with fail
          refine hKS.out _ _ ?_
          clear hKS KK
          try simp only [Act.put, List.setIfInBounds_toArray, List.set_cons_zero, List.set_cons_succ]
          refine wpAny_take (i := 5) (oi := { dst := some 28, op := Op.binOp BinOp.add 9 (Operand.tmp 25) (Operand.tmp 27) 9, type := _, pos := _, after := _, guard := _ }) (v := ?_) rfl (by kernel_rfl) (by kernel_rfl) (by kernel_rfl) (fun _ _ _ h => h) (Or.inl ⟨by rfl, ?_⟩) ?_
          rotate_left
          · intro wq
            go_simp
            rfl
          try simp only [Act.put, List.setIfInBounds_toArray, List.set_cons_zero, List.set_cons_succ]
          refine wpAny_ready (rs := [6]) (by kernel_rfl) (by simp) ?_
          refine AllReady.cons (o := { dst := some 29, op := Op.call { callee := Callee.value (Operand.func 63), args := #[Operand.tmp 23, Operand.tmp 28], argTypes := #[88, 9] }, type := _, pos := _, after := _, guard := _ }) rfl (fun KK hKK => ?_) AllReady.nil
          have hKS := Lib.hid hKK
          clear hKK
          go_simp
          refine (hd _).mono ?_
          rintro e w6 ⟨rfl, hx⟩
          go_wp2_with fail
          replace st := st.below hx
          clear hx
          refine hKS.out _ _ ?_
          clear hKS KK
          try simp only [Act.put, List.setIfInBounds_toArray, List.set_cons_zero, List.set_cons_succ]
          refine wpAny_ready (rs := [7]) (by kernel_rfl) (by simp) ?_
          refine AllReady.cons (o := { dst := none, op := Op.store 64 (Operand.tmp 4) (Operand.tmp 29), type := _, pos := _, after := _, guard := _ }) rfl (fun KK hKK => ?_) AllReady.nil
          have hKS := Lib.hid hKK
          clear hKK
          rw [if_pos (by rfl)]
          refine ss t24 _ _ rfl _ rfl rfl st.od (by simp) lD ?_
          have hz := st.done D
          refine hKS.out _ _ ?_
          clear hKS KK
          try simp only [Act.put, List.setIfInBounds_toArray, List.set_cons_zero, List.set_cons_succ]
          refine wpAny_done (by kernel_rfl) ?_ _
          go_wp2_with fail
          exact ret_arr t24 rfl rfl hz.1 lD rfl ⟨rfl, by rw [hBB]; exact hz.2⟩
        refine AllReady.cons (o := { dst := some 27, op := Op.call { callee := Callee.value (Operand.func 64), args := #[Operand.tmp 26], argTypes := #[36] }, type := _, pos := _, after := _, guard := _ }) rfl (fun KK hKK => ?_) AllReady.nil
        · have hKS := Lib.hid hKK
          clear hKK
          go_simp
          refine (hj _ st.b).mono ?_
          rintro e w2 ⟨rfl, rfl⟩
          go_wp2_with fail
          refine hKS.out _ _ ?_
          clear hKS KK
          try simp only [Act.put, List.setIfInBounds_toArray, List.set_cons_zero, List.set_cons_succ]
          refine wpAny_ready (rs := [2]) (by kernel_rfl) (by simp) ?_
          refine AllReady.cons (o := { dst := some 25, op := Op.convert 45 9 (Operand.tmp 24), type := _, pos := _, after := _, guard := _ }) rfl (fun KK hKK => ?_) AllReady.nil
          have hKS := Lib.hid hKK
          clear hKK
          go_simp
          refine hKS.out _ _ ?_
          clear hKS KK
          try simp only [Act.put, List.setIfInBounds_toArray, List.set_cons_zero, List.set_cons_succ]
          refine wpAny_take (i := 5) (oi := { dst := some 28, op := Op.binOp BinOp.add 9 (Operand.tmp 25) (Operand.tmp 27) 9, type := _, pos := _, after := _, guard := _ }) (v := ?_) rfl (by kernel_rfl) (by kernel_rfl) (by kernel_rfl) (fun _ _ _ h => h) (Or.inl ⟨by rfl, ?_⟩) ?_
          rotate_left
          · intro wq
            go_simp
            rfl
          try simp only [Act.put, List.setIfInBounds_toArray, List.set_cons_zero, List.set_cons_succ]
          refine wpAny_ready (rs := [6]) (by kernel_rfl) (by simp) ?_
          refine AllReady.cons (o := { dst := some 29, op := Op.call { callee := Callee.value (Operand.func 63), args := #[Operand.tmp 23, Operand.tmp 28], argTypes := #[88, 9] }, type := _, pos := _, after := _, guard := _ }) rfl (fun KK hKK => ?_) AllReady.nil
          have hKS := Lib.hid hKK
          clear hKK
          go_simp
          refine (hd _).mono ?_
          rintro e w6 ⟨rfl, hx⟩
          go_wp2_with fail
          replace st := st.below hx
          clear hx
          refine hKS.out _ _ ?_
          clear hKS KK
          try simp only [Act.put, List.setIfInBounds_toArray, List.set_cons_zero, List.set_cons_succ]
          refine wpAny_ready (rs := [7]) (by kernel_rfl) (by simp) ?_
          refine AllReady.cons (o := { dst := none, op := Op.store 64 (Operand.tmp 4) (Operand.tmp 29), type := _, pos := _, after := _, guard := _ }) rfl (fun KK hKK => ?_) AllReady.nil
          have hKS := Lib.hid hKK
          clear hKK
          rw [if_pos (by rfl)]
          refine ss t24 _ _ rfl _ rfl rfl st.od (by simp) lD ?_
          have hz := st.done D
          refine hKS.out _ _ ?_
          clear hKS KK
          try simp only [Act.put, List.setIfInBounds_toArray, List.set_cons_zero, List.set_cons_succ]
          refine wpAny_done (by kernel_rfl) ?_ _
          go_wp2_with fail
          exact ret_arr t24 rfl rfl hz.1 lD rfl ⟨rfl, by rw [hBB]; exact hz.2⟩
      refine AllReady.cons (o := { dst := some 25, op := Op.convert 45 9 (Operand.tmp 24), type := _, pos := _, after := _, guard := _ }) rfl (fun KK hKK => ?_) ?_
      · have hKS := Lib.hid hKK
        clear hKK
        go_simp
        refine hKS.out _ _ ?_
        clear hKS KK
        try simp only [Act.put, List.setIfInBounds_toArray, List.set_cons_zero, List.set_cons_succ]
        refine wpAny_ready (rs := [0, 4]) (by kernel_rfl) (by simp) ?_
        refine AllReady.cons (o := { dst := some 23, op := Op.load 88 (Operand.tmp 5), type := _, pos := _, after := _, guard := _ }) rfl (fun KK hKK => ?_) ?_
        · have hKS := Lib.hid hKK
          clear hKK
          rw [if_pos (by rfl)]
          refine lw t42 _ rfl _ rfl st.oh Bl.hk_ok.1 ?_
          refine hKS.out _ _ ?_
          clear hKS KK
          try simp only [Act.put, List.setIfInBounds_toArray, List.set_cons_zero, List.set_cons_succ]
          refine wpAny_ready (rs := [4]) (by kernel_rfl) (by simp) ?_
          refine AllReady.cons (o := { dst := some 27, op := Op.call { callee := Callee.value (Operand.func 64), args := #[Operand.tmp 26], argTypes := #[36] }, type := _, pos := _, after := _, guard := _ }) rfl (fun KK hKK => ?_) AllReady.nil
          have hKS := Lib.hid hKK
          clear hKK
          go_simp
          refine (hj _ st.b).mono ?_
          rintro e w2 ⟨rfl, rfl⟩
          go_wp2_with fail
          refine hKS.out _ _ ?_
          clear hKS KK
          try simp only [Act.put, List.setIfInBounds_toArray, List.set_cons_zero, List.set_cons_succ]
          refine wpAny_take (i := 5) (oi := { dst := some 28, op := Op.binOp BinOp.add 9 (Operand.tmp 25) (Operand.tmp 27) 9, type := _, pos := _, after := _, guard := _ }) (v := ?_) rfl (by kernel_rfl) (by kernel_rfl) (by kernel_rfl) (fun _ _ _ h => h) (Or.inl ⟨by rfl, ?_⟩) ?_
          rotate_left
          · intro wq
            go_simp
            rfl
          try simp only [Act.put, List.setIfInBounds_toArray, List.set_cons_zero, List.set_cons_succ]
          refine wpAny_ready (rs := [6]) (by kernel_rfl) (by simp) ?_
          refine AllReady.cons (o := { dst := some 29, op := Op.call { callee := Callee.value (Operand.func 63), args := #[Operand.tmp 23, Operand.tmp 28], argTypes := #[88, 9] }, type := _, pos := _, after := _, guard := _ }) rfl (fun KK hKK => ?_) AllReady.nil
          have hKS := Lib.hid hKK
          clear hKK
          go_simp
          refine (hd _).mono ?_
          rintro e w6 ⟨rfl, hx⟩
          go_wp2_with fail
          replace st := st.below hx
          clear hx
          refine hKS.out _ _ ?_
          clear hKS KK
          try simp only [Act.put, List.setIfInBounds_toArray, List.set_cons_zero, List.set_cons_succ]
          refine wpAny_ready (rs := [7]) (by kernel_rfl) (by simp) ?_
          refine AllReady.cons (o := { dst := none, op := Op.store 64 (Operand.tmp 4) (Operand.tmp 29), type := _, pos := _, after := _, guard := _ }) rfl (fun KK hKK => ?_) AllReady.nil
          have hKS := Lib.hid hKK
          clear hKK
          rw [if_pos (by rfl)]
          refine ss t24 _ _ rfl _ rfl rfl st.od (by simp) lD ?_
          have hz := st.done D
          refine hKS.out _ _ ?_
          clear hKS KK
          try simp only [Act.put, List.setIfInBounds_toArray, List.set_cons_zero, List.set_cons_succ]
          refine wpAny_done (by kernel_rfl) ?_ _
          go_wp2_with fail
          exact ret_arr t24 rfl rfl hz.1 lD rfl ⟨rfl, by rw [hBB]; exact hz.2⟩
        refine AllReady.cons (o := { dst := some 27, op := Op.call { callee := Callee.value (Operand.func 64), args := #[Operand.tmp 26], argTypes := #[36] }, type := _, pos := _, after := _, guard := _ }) rfl (fun KK hKK => ?_) AllReady.nil
        · have hKS := Lib.hid hKK
          clear hKK
          go_simp
          refine (hj _ st.b).mono ?_
          rintro e w2 ⟨rfl, rfl⟩
          go_wp2_with fail
          refine hKS.out _ _ ?_
          clear hKS KK
          try simp only [Act.put, List.setIfInBounds_toArray, List.set_cons_zero, List.set_cons_succ]
          refine wpAny_take (i := 5) (oi := { dst := some 28, op := Op.binOp BinOp.add 9 (Operand.tmp 25) (Operand.tmp 27) 9, type := _, pos := _, after := _, guard := _ }) (v := ?_) rfl (by kernel_rfl) (by kernel_rfl) (by kernel_rfl) (fun _ _ _ h => h) (Or.inl ⟨by rfl, ?_⟩) ?_
          rotate_left
          · intro wq
            go_simp
            rfl
          try simp only [Act.put, List.setIfInBounds_toArray, List.set_cons_zero, List.set_cons_succ]
          refine wpAny_ready (rs := [0]) (by kernel_rfl) (by simp) ?_
          refine AllReady.cons (o := { dst := some 23, op := Op.load 88 (Operand.tmp 5), type := _, pos := _, after := _, guard := _ }) rfl (fun KK hKK => ?_) AllReady.nil
          have hKS := Lib.hid hKK
          clear hKK
          rw [if_pos (by rfl)]
          refine lw t42 _ rfl _ rfl st.oh Bl.hk_ok.1 ?_
          refine hKS.out _ _ ?_
          clear hKS KK
          try simp only [Act.put, List.setIfInBounds_toArray, List.set_cons_zero, List.set_cons_succ]
          refine wpAny_ready (rs := [6]) (by kernel_rfl) (by simp) ?_
          refine AllReady.cons (o := { dst := some 29, op := Op.call { callee := Callee.value (Operand.func 63), args := #[Operand.tmp 23, Operand.tmp 28], argTypes := #[88, 9] }, type := _, pos := _, after := _, guard := _ }) rfl (fun KK hKK => ?_) AllReady.nil
          have hKS := Lib.hid hKK
          clear hKK
          go_simp
          refine (hd _).mono ?_
          rintro e w6 ⟨rfl, hx⟩
          go_wp2_with fail
          replace st := st.below hx
          clear hx
          refine hKS.out _ _ ?_
          clear hKS KK
          try simp only [Act.put, List.setIfInBounds_toArray, List.set_cons_zero, List.set_cons_succ]
          refine wpAny_ready (rs := [7]) (by kernel_rfl) (by simp) ?_
          refine AllReady.cons (o := { dst := none, op := Op.store 64 (Operand.tmp 4) (Operand.tmp 29), type := _, pos := _, after := _, guard := _ }) rfl (fun KK hKK => ?_) AllReady.nil
          have hKS := Lib.hid hKK
          clear hKK
          rw [if_pos (by rfl)]
          refine ss t24 _ _ rfl _ rfl rfl st.od (by simp) lD ?_
          have hz := st.done D
          refine hKS.out _ _ ?_
          clear hKS KK
          try simp only [Act.put, List.setIfInBounds_toArray, List.set_cons_zero, List.set_cons_succ]
          refine wpAny_done (by kernel_rfl) ?_ _
          go_wp2_with fail
          exact ret_arr t24 rfl rfl hz.1 lD rfl ⟨rfl, by rw [hBB]; exact hz.2⟩
      refine AllReady.cons (o := { dst := some 27, op := Op.call { callee := Callee.value (Operand.func 64), args := #[Operand.tmp 26], argTypes := #[36] }, type := _, pos := _, after := _, guard := _ }) rfl (fun KK hKK => ?_) AllReady.nil
      · have hKS := Lib.hid hKK
        clear hKK
        go_simp
        refine (hj _ st.b).mono ?_
        rintro e w2 ⟨rfl, rfl⟩
        go_wp2_with fail
        refine hKS.out _ _ ?_
        clear hKS KK
        try simp only [Act.put, List.setIfInBounds_toArray, List.set_cons_zero, List.set_cons_succ]
        refine wpAny_ready (rs := [0, 2]) (by kernel_rfl) (by simp) ?_
        refine AllReady.cons (o := { dst := some 23, op := Op.load 88 (Operand.tmp 5), type := _, pos := _, after := _, guard := _ }) rfl (fun KK hKK => ?_) ?_
        · have hKS := Lib.hid hKK
          clear hKK
          rw [if_pos (by rfl)]
          refine lw t42 _ rfl _ rfl st.oh Bl.hk_ok.1 ?_
          refine hKS.out _ _ ?_
          clear hKS KK
          try simp only [Act.put, List.setIfInBounds_toArray, List.set_cons_zero, List.set_cons_succ]
          refine wpAny_ready (rs := [2]) (by kernel_rfl) (by simp) ?_
          refine AllReady.cons (o := { dst := some 25, op := Op.convert 45 9 (Operand.tmp 24), type := _, pos := _, after := _, guard := _ }) rfl (fun KK hKK => ?_) AllReady.nil
          have hKS := Lib.hid hKK
          clear hKK
          go_simp
          refine hKS.out _ _ ?_
          clear hKS KK
          try simp only [Act.put, List.setIfInBounds_toArray, List.set_cons_zero, List.set_cons_succ]
          refine wpAny_take (i := 5) (oi := { dst := some 28, op := Op.binOp BinOp.add 9 (Operand.tmp 25) (Operand.tmp 27) 9, type := _, pos := _, after := _, guard := _ }) (v := ?_) rfl (by kernel_rfl) (by kernel_rfl) (by kernel_rfl) (fun _ _ _ h => h) (Or.inl ⟨by rfl, ?_⟩) ?_
          rotate_left
          · intro wq
            go_simp
            rfl
          try simp only [Act.put, List.setIfInBounds_toArray, List.set_cons_zero, List.set_cons_succ]
          refine wpAny_ready (rs := [6]) (by kernel_rfl) (by simp) ?_
          refine AllReady.cons (o := { dst := some 29, op := Op.call { callee := Callee.value (Operand.func 63), args := #[Operand.tmp 23, Operand.tmp 28], argTypes := #[88, 9] }, type := _, pos := _, after := _, guard := _ }) rfl (fun KK hKK => ?_) AllReady.nil
          have hKS := Lib.hid hKK
          clear hKK
          go_simp
          refine (hd _).mono ?_
          rintro e w6 ⟨rfl, hx⟩
          go_wp2_with fail
          replace st := st.below hx
          clear hx
          refine hKS.out _ _ ?_
          clear hKS KK
          try simp only [Act.put, List.setIfInBounds_toArray, List.set_cons_zero, List.set_cons_succ]
          refine wpAny_ready (rs := [7]) (by kernel_rfl) (by simp) ?_
          refine AllReady.cons (o := { dst := none, op := Op.store 64 (Operand.tmp 4) (Operand.tmp 29), type := _, pos := _, after := _, guard := _ }) rfl (fun KK hKK => ?_) AllReady.nil
          have hKS := Lib.hid hKK
          clear hKK
          rw [if_pos (by rfl)]
          refine ss t24 _ _ rfl _ rfl rfl st.od (by simp) lD ?_
          have hz := st.done D
          refine hKS.out _ _ ?_
          clear hKS KK
          try simp only [Act.put, List.setIfInBounds_toArray, List.set_cons_zero, List.set_cons_succ]
          refine wpAny_done (by kernel_rfl) ?_ _
          go_wp2_with fail
          exact ret_arr t24 rfl rfl hz.1 lD rfl ⟨rfl, by rw [hBB]; exact hz.2⟩
        refine AllReady.cons (o := { dst := some 25, op := Op.convert 45 9 (Operand.tmp 24), type := _, pos := _, after := _, guard := _ }) rfl (fun KK hKK => ?_) AllReady.nil
        · have hKS := Lib.hid hKK
          clear hKK
          go_simp
          refine hKS.out _ _ ?_
          clear hKS KK
          try simp only [Act.put, List.setIfInBounds_toArray, List.set_cons_zero, List.set_cons_succ]
          refine wpAny_take (i := 5) (oi := { dst := some 28, op := Op.binOp BinOp.add 9 (Operand.tmp 25) (Operand.tmp 27) 9, type := _, pos := _, after := _, guard := _ }) (v := ?_) rfl (by kernel_rfl) (by kernel_rfl) (by kernel_rfl) (fun _ _ _ h => h) (Or.inl ⟨by rfl, ?_⟩) ?_
          rotate_left
          · intro wq
            go_simp
            rfl
          try simp only [Act.put, List.setIfInBounds_toArray, List.set_cons_zero, List.set_cons_succ]
          refine wpAny_ready (rs := [0]) (by kernel_rfl) (by simp) ?_
          refine AllReady.cons (o := { dst := some 23, op := Op.load 88 (Operand.tmp 5), type := _, pos := _, after := _, guard := _ }) rfl (fun KK hKK => ?_) AllReady.nil
          have hKS := Lib.hid hKK
          clear hKK
          rw [if_pos (by rfl)]
          refine lw t42 _ rfl _ rfl st.oh Bl.hk_ok.1 ?_
          refine hKS.out _ _ ?_
          clear hKS KK
          try simp only [Act.put, List.setIfInBounds_toArray, List.set_cons_zero, List.set_cons_succ]
          refine wpAny_ready (rs := [6]) (by kernel_rfl) (by simp) ?_
          refine AllReady.cons (o := { dst := some 29, op := Op.call { callee := Callee.value (Operand.func 63), args := #[Operand.tmp 23, Operand.tmp 28], argTypes := #[88, 9] }, type := _, pos := _, after := _, guard := _ }) rfl (fun KK hKK => ?_) AllReady.nil
          have hKS := Lib.hid hKK
          clear hKK
          go_simp
          refine (hd _).mono ?_
          rintro e w6 ⟨rfl, hx⟩
          go_wp2_with fail
          replace st := st.below hx
          clear hx
          refine hKS.out _ _ ?_
          clear hKS KK
          try simp only [Act.put, List.setIfInBounds_toArray, List.set_cons_zero, List.set_cons_succ]
          refine wpAny_ready (rs := [7]) (by kernel_rfl) (by simp) ?_
          refine AllReady.cons (o := { dst := none, op := Op.store 64 (Operand.tmp 4) (Operand.tmp 29), type := _, pos := _, after := _, guard := _ }) rfl (fun KK hKK => ?_) AllReady.nil
          have hKS := Lib.hid hKK
          clear hKK
          rw [if_pos (by rfl)]
          refine ss t24 _ _ rfl _ rfl rfl st.od (by simp) lD ?_
          have hz := st.done D
          refine hKS.out _ _ ?_
          clear hKS KK
          try simp only [Act.put, List.setIfInBounds_toArray, List.set_cons_zero, List.set_cons_succ]
          refine wpAny_done (by kernel_rfl) ?_ _
          go_wp2_with fail
          exact ret_arr t24 rfl rfl hz.1 lD rfl ⟨rfl, by rw [hBB]; exact hz.2⟩
end Go.Proofs.YtaoaebdjinlcnaaDoor
