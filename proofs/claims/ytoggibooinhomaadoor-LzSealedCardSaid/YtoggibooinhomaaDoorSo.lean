/-
  THE WALKS of seal's Open and of the document's.
-/
import Derived.Test.YtoggibooinhomaaDoorSs
namespace Go.Proofs.YtoggibooinhomaaDoor
set_option linter.unusedVariables false
set_option linter.unusedSimpArgs false
open Go.RowKit
/-- the key lies in the call's first block, a digest in a block of its own -/
structure Kd (w wr : World) (K : List Nat) (g : Nat) (D : List Nat) : Prop where
  k : Own wr w.heap.size 23 (vs .u8 K)
  d : Own wr g 34 (vs .u8 D)
  b : Below w.heap.size w wr
theorem Kd.drew {w wr : World} {K D : List Nat} {g : Nat} (o : Kd w wr K g D) : Kd w wr.drew K g D := ⟨o.k, o.d, o.b.drew⟩
theorem Kd.kf {w wr : World} {K D : List Nat} {g : Nat} (o : Kd w wr K g D) : Kf w wr K := ⟨o.k, o.b⟩
theorem cut_size (x : ByteArray) (h : ¬ x.size < 44) : (x.extract 0 (x.size - 32)).size = x.size - 32 := by simp
theorem nonD_cut (x : ByteArray) (h : ¬ x.size < 44) : nonD (x.extract 0 (x.size - 32)) = nonD x := by
  unfold nonD
  rw [List.take_append_of_le_length (by rw [tn_length]; simp; omega), List.take_append_of_le_length (by rw [tn_length]; omega), tn_extract, List.drop_zero, List.take_take, Nat.min_eq_left (by omega)]
theorem cut_cut (x : ByteArray) (h : ¬ x.size < 44) : (x.extract 0 (x.size - 32)).extract 12 (x.size - 32) = x.extract 12 (x.size - 32) := by
  have e : tn ((x.extract 0 (x.size - 32)).extract 12 (x.size - 32)) = tn (x.extract 12 (x.size - 32)) := by
    rw [tn_extract, tn_extract, tn_extract, List.drop_zero, List.take_take, Nat.min_self]
  rw [← bs_tn ((x.extract 0 (x.size - 32)).extract 12 (x.size - 32)), e, bs_tn]
theorem str_yes {a b : ByteArray} (h : a = b) : (a.toList == b.toList) = true := by rw [h]; simp
theorem str_no {a b : ByteArray} (h : a ≠ b) : (a.toList == b.toList) = false := by
  rw [beq_eq_false_iff_ne]
  intro e
  apply h
  rw [ByteArray.toList_eq, ByteArray.toList_eq] at e
  exact ByteArray.ext (Array.toList_inj.1 e)
set_option maxRecDepth 100000 in
set_option maxHeartbeats 2000000 in
theorem open_any (K : List Nat) (h x : ByteArray) (w : World) (hK : Bl.By K) (lK : K.length = 32) (hT : Tab w) (hh : h.size ≤ 10000) (hs : x.size ≤ 10000) :
    Calls Tryd.prog 5 #[.agg (vs .u8 K), .string h, .string x] w fun e w' => e = .returned (.tuple #[.string (openD K h x).1, .int .i64 ((openD K h x).2 : Nat)]) ∧ Below w.heap.size w w' := by
  have b0 := grow w (Obj.cells (vs .u8 K) 23)
  have oK := Own.new w 23 (vs .u8 K)
  by_cases h44 : x.size < 44
  · have d1 : (x.size : Int) < 44 := by omega
    rw [openD, if_pos h44]
    go_enter Tryd.func5, Tryd.ntmps5
    go_wp2_with fail
    go_ret2
    exact ⟨rfl, b0⟩
  · have d1 : ¬ (x.size : Int) < 44 := by omega
    have d2 : ¬ ((x.size : Int) - 32 < 12) := by omega
    have d3 : (12 : Int) ≤ ((x.size - 32 : Nat) : Int) := by omega
    rw [openD, if_neg h44]
    have hk : Kf w (w.alloc (Obj.cells (vs .u8 K) 23)) K := ⟨oK, b0⟩
    obtain ⟨V, hV⟩ : ∃ V, V = w.alloc (Obj.cells (vs .u8 K) 23) := ⟨_, rfl⟩
    rw [← hV] at hk b0
    obtain ⟨B, hB⟩ : ∃ B, B = x.extract 0 (x.size - 32) := ⟨_, rfl⟩
    have zB : B.size = x.size - 32 := by rw [hB]; exact cut_size x h44
    obtain ⟨E, hE⟩ : ∃ E, E = x.extract 12 (x.size - 32) := ⟨_, rfl⟩
    have zE : E.size ≤ 10000 := by rw [hE]; simp; omega
    have eE : B.extract 12 (x.size - 32) = E := by rw [hB, hE]; exact cut_cut x h44
    obtain ⟨M, hM⟩ : ∃ M, M = nonD x := ⟨_, rfl⟩
    have lM : M.length = 12 := by rw [hM]; exact nonD_len x
    have bM : Bl.By M := by rw [hM]; exact nonD_by x
    obtain ⟨D, hD⟩ : ∃ D, D = tagD K h B := ⟨_, rfl⟩
    have lD : D.length = 32 := by rw [hD]; exact tagD_len _ _ _
    obtain ⟨X, hX⟩ : ∃ X, X = strm K M E := ⟨_, rfl⟩
    rw [← hB, ← hE, ← hM, ← hD, ← hX]
    obtain ⟨r, hr⟩ : ∃ r : ByteArray × Nat, r = if bs D = x.extract (x.size - 32) x.size then (X, 0) else (⟨#[]⟩, 5) := ⟨_, rfl⟩
    rw [← hr]
    replace hr := Lib.hid hr
    have h20 : ∀ wr, Below w.heap.size w wr → Calls Tryd.prog 10 #[.agg (vs .u8 K), .string h, .string B] wr fun e w' => e = .returned (.agg (vs .u8 D)) ∧ Below wr.heap.size wr w' := fun wr o => by
      rw [hD]; exact tag_any K h B wr hK lK (hT.below o) (by omega)
    have h15 : ∀ wr, Calls Tryd.prog 7 #[.string B] wr fun e w' => e = .returned (.agg (vs .u8 M)) ∧ Below wr.heap.size wr w' := fun wr => by
      have := nonce_any B wr
      rw [hB, nonD_cut x h44] at this; rw [hM, hB]; exact this
    have h19 : ∀ wr, Below w.heap.size w wr → Calls Tryd.prog 11 #[.agg (vs .u8 K), .agg (vs .u8 M), .string E] wr fun e w' => e = .returned (.string X) ∧ Below wr.heap.size wr w' := fun wr o => by
      rw [hX]; exact turn_any K M E wr hK bM lK lM (hT.below o) zE
    have HV := Lib.hid (And.intro hV hB)
    clear hV hB hE hM hD hX hT zE bM lM
    go_enter Tryd.func5, Tryd.ntmps5
    go_wp2_with (refine ld t28 rfl rfl rfl oK lK ?_)
    rw [← HV.out.1, ← HV.out.2]
    refine (h20 _ b0).mono ?_
    rintro e w2 ⟨rfl, hx⟩
    replace hk := hk.below hx
    clear hx oK b0
    have st : Kd w (w2.alloc (Obj.cells (vs .u8 D) 34)) K w2.heap.size D := ⟨hk.k.alloc _, Own.new _ _ _, hk.b.trans ((grow _ _).mono hk.b.size)⟩
    go_wp2_with (refine sto_new (l := D) t24 rfl rfl rfl rfl rfl rfl lD ?_)
    generalize w2.alloc (Obj.cells (vs .u8 D) 34) = W0 at *
    generalize w2.heap.size = g at *
    by_cases hq : bs D = x.extract (x.size - 32) x.size
    · replace hr := hr.out
      rw [if_pos hq] at hr
      subst hr
      refine wp_region_held_drew (S := fun w' => Kd w w' K g D) (by kernel_rfl) st.drew (fun hHeld => ?_)
      clear st
      generalize W0.drew = W1 at *
      refine wpAnyH_take (i := 0) (oi := { dst := some 22, op := Op.slice 34 (Operand.tmp 9) none none none, type := _, pos := _, after := _, guard := _ }) (v := ?_) rfl (by kernel_rfl) (by kernel_rfl) (by kernel_rfl) (fun _ _ _ h => h) (Or.inl ⟨by rfl, ?_⟩) hHeld ?_
      rotate_left
      · intro wq hSw
        go_simp
        rfl
      try simp only [Act.put, List.setIfInBounds_toArray, List.set_cons_zero, List.set_cons_succ]
      refine wpAnyH_take (i := 1) (oi := { dst := some 23, op := Op.convert 36 9 (Operand.tmp 22), type := _, pos := _, after := _, guard := _ }) rfl (by kernel_rfl) (by kernel_rfl) (by kernel_rfl) (fun _ _ _ h => h) (yconv (by rfl) _ rfl _ 32 rfl (fun w1 h => h.d) lD) hHeld ?_
      try simp only [Act.put, List.setIfInBounds_toArray, List.set_cons_zero, List.set_cons_succ]
      refine wpAnyH_take (i := 2) (oi := { dst := some 24, op := Op.move (Operand.tmp 2), type := _, pos := _, after := _, guard := _ }) (v := ?_) rfl (by kernel_rfl) (by kernel_rfl) (by kernel_rfl) (fun _ _ _ h => h) (Or.inl ⟨by rfl, ?_⟩) hHeld ?_
      rotate_left
      · intro wq hSw
        go_simp
        rfl
      try simp only [Act.put, List.setIfInBounds_toArray, List.set_cons_zero, List.set_cons_succ]
      refine wpAnyH_take (i := 3) (oi := { dst := some 25, op := Op.move (Operand.tmp 8), type := _, pos := _, after := _, guard := _ }) (v := ?_) rfl (by kernel_rfl) (by kernel_rfl) (by kernel_rfl) (fun _ _ _ h => h) (Or.inl ⟨by rfl, ?_⟩) hHeld ?_
      rotate_left
      · intro wq hSw
        go_simp
        rfl
      try simp only [Act.put, List.setIfInBounds_toArray, List.set_cons_zero, List.set_cons_succ]
      refine wpAnyH_take (i := 4) (oi := { dst := some 26, op := Op.call { callee := Callee.builtin Builtin.len, args := #[Operand.tmp 25], argTypes := #[9] }, type := _, pos := _, after := _, guard := _ }) (v := ?_) rfl (by kernel_rfl) (by kernel_rfl) (by kernel_rfl) (fun _ _ _ h => h) (Or.inl ⟨by rfl, ?_⟩) hHeld ?_
      rotate_left
      · intro wq hSw
        go_simp
        rfl
      try simp only [Act.put, List.setIfInBounds_toArray, List.set_cons_zero, List.set_cons_succ]
      refine wpAnyH_take (i := 5) (oi := { dst := some 27, op := Op.slice 9 (Operand.tmp 24) (some (Operand.tmp 26)) none none, type := _, pos := _, after := _, guard := _ }) (v := ?_) rfl (by kernel_rfl) (by kernel_rfl) (by kernel_rfl) (fun _ _ _ h => h) (Or.inl ⟨by rfl, ?_⟩) hHeld ?_
      rotate_left
      · intro wq hSw
        go_simp
        rfl
      try simp only [Act.put, List.setIfInBounds_toArray, List.set_cons_zero, List.set_cons_succ]
      refine wpAnyH_take (i := 6) (oi := { dst := some 28, op := Op.binOp BinOp.neq 9 (Operand.tmp 23) (Operand.tmp 27) 9, type := _, pos := _, after := _, guard := _ }) (v := ?_) rfl (by kernel_rfl) (by kernel_rfl) (by kernel_rfl) (fun _ _ _ h => h) (Or.inl ⟨by rfl, ?_⟩) hHeld ?_
      rotate_left
      · intro wq hSw
        go_simp
        rfl
      try simp only [Act.put, List.setIfInBounds_toArray, List.set_cons_zero, List.set_cons_succ]
      refine wpAnyH_done (by kernel_rfl) ?_ _
      go_wp2_with fail
      have hf := hHeld.kf
      clear hHeld
      refine wp_region_held_drew (S := fun w' => Kf w w' K) (by kernel_rfl) hf.drew (fun hHeld => ?_)
      clear hf
      generalize W1.drew = W3 at *
      refine wpAnyH_take (i := 0) (oi := { dst := some 29, op := Op.load 23 (Operand.tmp 3), type := _, pos := _, after := _, guard := _ }) rfl (by kernel_rfl) (by kernel_rfl) (by kernel_rfl) (fun _ _ _ h => h) (yl t28 (by rfl) _ rfl _ rfl (fun w1 h => h.k) lK) hHeld ?_
      try simp only [Act.put, List.setIfInBounds_toArray, List.set_cons_zero, List.set_cons_succ]
      refine wpAnyH_take (i := 1) (oi := { dst := some 30, op := Op.move (Operand.tmp 8), type := _, pos := _, after := _, guard := _ }) (v := ?_) rfl (by kernel_rfl) (by kernel_rfl) (by kernel_rfl) (fun _ _ _ h => h) (Or.inl ⟨by rfl, ?_⟩) hHeld ?_
      rotate_left
      · intro wq hSw
        go_simp
        rfl
      try simp only [Act.put, List.setIfInBounds_toArray, List.set_cons_zero, List.set_cons_succ]
      refine wpAnyH_take (i := 3) (oi := { dst := some 32, op := Op.move (Operand.tmp 8), type := _, pos := _, after := _, guard := _ }) (v := ?_) rfl (by kernel_rfl) (by kernel_rfl) (by kernel_rfl) (fun _ _ _ h => h) (Or.inl ⟨by rfl, ?_⟩) hHeld ?_
      rotate_left
      · intro wq hSw
        go_simp
        rfl
      try simp only [Act.put, List.setIfInBounds_toArray, List.set_cons_zero, List.set_cons_succ]
      refine wpAnyH_take (i := 4) (oi := { dst := some 33, op := Op.slice 9 (Operand.tmp 32) (some (Operand.const (Value.int IntKind.i64 12))) none none, type := _, pos := _, after := _, guard := _ }) (v := ?_) rfl (by kernel_rfl) (by kernel_rfl) (by kernel_rfl) (fun _ _ _ h => h) (Or.inl ⟨by rfl, ?_⟩) hHeld ?_
      rotate_left
      · intro wq hSw
        go_simp
        rfl
      try simp only [Act.put, List.setIfInBounds_toArray, List.set_cons_zero, List.set_cons_succ]
      refine wpAnyH_ready (rs := [2]) (by kernel_rfl) (by simp) ?_
      refine AllReadyH.cons (o := { dst := some 31, op := Op.call { callee := Callee.value (Operand.func 7), args := #[Operand.tmp 30], argTypes := #[9] }, type := _, pos := _, after := _, guard := _ }) rfl (fun KK hKK => ?_) AllReadyH.nil
      have hKS := Lib.hid hKK
      clear hKK
      go_simp
      refine (h15 _).mono ?_
      rintro e w2 ⟨rfl, hx⟩
      go_wp2_with fail
      refine hKS.out.out _ _ (hHeld.below hx) (fun hHeld => ?_)
      clear hKS KK hx
      try simp only [Act.put, List.setIfInBounds_toArray, List.set_cons_zero, List.set_cons_succ]
      refine wpAnyH_ready (rs := [5]) (by kernel_rfl) (by simp) ?_
      refine AllReadyH.cons (o := { dst := some 34, op := Op.call { callee := Callee.value (Operand.func 11), args := #[Operand.tmp 29, Operand.tmp 31, Operand.tmp 33], argTypes := #[23, 29, 9] }, type := _, pos := _, after := _, guard := _ }) rfl (fun KK hKK => ?_) AllReadyH.nil
      have hKS := Lib.hid hKK
      clear hKK
      go_simp
      refine (h19 _ hHeld.b).mono ?_
      rintro e w5 ⟨rfl, hx⟩
      go_wp2_with fail
      refine hKS.out.out _ _ (hHeld.below hx) (fun hHeld => ?_)
      clear hKS KK hx
      try simp only [Act.put, List.setIfInBounds_toArray, List.set_cons_zero, List.set_cons_succ]
      refine wpAnyH_take (i := 6) (oi := { dst := some 6, op := Op.assign (Operand.tmp 34), type := _, pos := _, after := _, guard := _ }) (v := ?_) rfl (by kernel_rfl) (by kernel_rfl) (by kernel_rfl) (fun _ _ _ h => h) (Or.inl ⟨by rfl, ?_⟩) hHeld ?_
      rotate_left
      · intro wq hSw
        go_simp
        rfl
      try simp only [Act.put, List.setIfInBounds_toArray, List.set_cons_zero, List.set_cons_succ]
      refine wpAnyH_take (i := 7) (oi := { dst := some 7, op := Op.assign (Operand.const (Value.int IntKind.i64 0)), type := _, pos := _, after := _, guard := _ }) (v := ?_) rfl (by kernel_rfl) (by kernel_rfl) (by kernel_rfl) (fun _ _ _ h => h) (Or.inl ⟨by rfl, ?_⟩) hHeld ?_
      rotate_left
      · intro wq hSw
        go_simp
        rfl
      try simp only [Act.put, List.setIfInBounds_toArray, List.set_cons_zero, List.set_cons_succ]
      refine wpAnyH_done (by kernel_rfl) ?_ _
      go_wp2_with fail
      go_ret2
      exact ⟨rfl, hHeld.b⟩
    · replace hr := hr.out
      rw [if_neg hq] at hr
      subst hr
      have hqb := str_no hq
      refine wp_region_held_drew (S := fun w' => Kd w w' K g D) (by kernel_rfl) st.drew (fun hHeld => ?_)
      clear st
      generalize W0.drew = W1 at *
      refine wpAnyH_take (i := 0) (oi := { dst := some 22, op := Op.slice 34 (Operand.tmp 9) none none none, type := _, pos := _, after := _, guard := _ }) (v := ?_) rfl (by kernel_rfl) (by kernel_rfl) (by kernel_rfl) (fun _ _ _ h => h) (Or.inl ⟨by rfl, ?_⟩) hHeld ?_
      rotate_left
      · intro wq hSw
        go_simp
        rfl
      try simp only [Act.put, List.setIfInBounds_toArray, List.set_cons_zero, List.set_cons_succ]
      refine wpAnyH_take (i := 1) (oi := { dst := some 23, op := Op.convert 36 9 (Operand.tmp 22), type := _, pos := _, after := _, guard := _ }) rfl (by kernel_rfl) (by kernel_rfl) (by kernel_rfl) (fun _ _ _ h => h) (yconv (by rfl) _ rfl _ 32 rfl (fun w1 h => h.d) lD) hHeld ?_
      try simp only [Act.put, List.setIfInBounds_toArray, List.set_cons_zero, List.set_cons_succ]
      refine wpAnyH_take (i := 2) (oi := { dst := some 24, op := Op.move (Operand.tmp 2), type := _, pos := _, after := _, guard := _ }) (v := ?_) rfl (by kernel_rfl) (by kernel_rfl) (by kernel_rfl) (fun _ _ _ h => h) (Or.inl ⟨by rfl, ?_⟩) hHeld ?_
      rotate_left
      · intro wq hSw
        go_simp
        rfl
      try simp only [Act.put, List.setIfInBounds_toArray, List.set_cons_zero, List.set_cons_succ]
      refine wpAnyH_take (i := 3) (oi := { dst := some 25, op := Op.move (Operand.tmp 8), type := _, pos := _, after := _, guard := _ }) (v := ?_) rfl (by kernel_rfl) (by kernel_rfl) (by kernel_rfl) (fun _ _ _ h => h) (Or.inl ⟨by rfl, ?_⟩) hHeld ?_
      rotate_left
      · intro wq hSw
        go_simp
        rfl
      try simp only [Act.put, List.setIfInBounds_toArray, List.set_cons_zero, List.set_cons_succ]
      refine wpAnyH_take (i := 4) (oi := { dst := some 26, op := Op.call { callee := Callee.builtin Builtin.len, args := #[Operand.tmp 25], argTypes := #[9] }, type := _, pos := _, after := _, guard := _ }) (v := ?_) rfl (by kernel_rfl) (by kernel_rfl) (by kernel_rfl) (fun _ _ _ h => h) (Or.inl ⟨by rfl, ?_⟩) hHeld ?_
      rotate_left
      · intro wq hSw
        go_simp
        rfl
      try simp only [Act.put, List.setIfInBounds_toArray, List.set_cons_zero, List.set_cons_succ]
      refine wpAnyH_take (i := 5) (oi := { dst := some 27, op := Op.slice 9 (Operand.tmp 24) (some (Operand.tmp 26)) none none, type := _, pos := _, after := _, guard := _ }) (v := ?_) rfl (by kernel_rfl) (by kernel_rfl) (by kernel_rfl) (fun _ _ _ h => h) (Or.inl ⟨by rfl, ?_⟩) hHeld ?_
      rotate_left
      · intro wq hSw
        go_simp
        rfl
      try simp only [Act.put, List.setIfInBounds_toArray, List.set_cons_zero, List.set_cons_succ]
      refine wpAnyH_take (i := 6) (oi := { dst := some 28, op := Op.binOp BinOp.neq 9 (Operand.tmp 23) (Operand.tmp 27) 9, type := _, pos := _, after := _, guard := _ }) (v := ?_) rfl (by kernel_rfl) (by kernel_rfl) (by kernel_rfl) (fun _ _ _ h => h) (Or.inl ⟨by rfl, ?_⟩) hHeld ?_
      rotate_left
      · intro wq hSw
        go_simp
        rfl
      try simp only [Act.put, List.setIfInBounds_toArray, List.set_cons_zero, List.set_cons_succ]
      refine wpAnyH_done (by kernel_rfl) ?_ _
      go_wp2_with fail
      go_ret2
      exact ⟨rfl, hHeld.b⟩
end Go.Proofs.YtoggibooinhomaaDoor
