/-
  THE WALKS of seal's Open and of the document's.
-/
import Derived.Test.YtaoaebdjinlcnaaDoorSs
set_option linter.unusedVariables false
set_option linter.unusedSimpArgs false
set_option maxRecDepth 100000
namespace Go.Proofs.YtaoaebdjinlcnaaDoor
open Go.RowKit
/-- the key lies in the call's first block, a digest in a block of its own -/
structure Kd (w wr : World) (K : List Nat) (g : Nat) (D : List Nat) : Prop where
  k : Own wr w.heap.size 24 (vs .u8 K)
  d : Own wr g 64 (vs .u8 D)
  b : Below w.heap.size w wr
theorem Kd.drew {w wr : World} {K D : List Nat} {g : Nat} (o : Kd w wr K g D) : Kd w wr.drew K g D := ⟨o.k, o.d, o.b.drew⟩
theorem Kd.kf {w wr : World} {K D : List Nat} {g : Nat} (o : Kd w wr K g D) : Kf w wr K := ⟨o.k, o.b⟩
theorem cut_size (x : ByteArray) (h : ¬ x.size < 44) : (x.extract 0 (x.size - 32)).size = x.size - 32 := by simp
theorem nonD_cut (x : ByteArray) (h : ¬ x.size < 44) : nonD (x.extract 0 (x.size - 32)) = nonD x := by
  unfold nonD
  rw [List.take_append_of_le_length (by rw [tn_length]; simp; omega), List.take_append_of_le_length (by rw [tn_length]; omega), tn_extract, List.drop_zero, List.take_take, Nat.min_eq_left (by omega)]
theorem cut_cut (x : ByteArray) (h : ¬ x.size < 44) : (x.extract 0 (x.size - 32)).extract 12 (x.size - 32) = x.extract 12 (x.size - 32) := by
  have e : tn ((x.extract 0 (x.size - 32)).extract 12 (x.size - 32)) = tn (x.extract 12 (x.size - 32)) := by
    rw [tn_extract, tn_extract, tn_extract, List.drop_zero, List.take_take, Nat.min_self]
  rw [← bs_tn ((x.extract 0 (x.size - 32)).extract 12 (x.size - 32)), e, bs_tn]
theorem str_yes {a b : ByteArray} (h : a = b) : (a.toList == b.toList) = true := by rw [h]; simp
theorem str_no {a b : ByteArray} (h : a ≠ b) : (a.toList == b.toList) = false := by
  rw [beq_eq_false_iff_ne]
  intro e
  apply h
  rw [ByteArray.toList_eq, ByteArray.toList_eq] at e
  exact ByteArray.ext (Array.toList_inj.1 e)
set_option maxRecDepth 100000 in
set_option maxHeartbeats 2000000 in
theorem open_any (K : List Nat) (h x : ByteArray) (w : World) (hK : Bl.By K) (lK : K.length = 32) (hT : Tab w) (hh : h.size ≤ 10000) (hs : x.size ≤ 10000) :
    Calls Tryd.prog 41 #[.agg (vs .u8 K), .string h, .string x] w fun e w' => e = .returned (.tuple #[.string (openD K h x).1, .int .i64 ((openD K h x).2 : Nat)]) ∧ Below w.heap.size w w' := by
  have b0 := grow w (Obj.cells (vs .u8 K) 24)
  have oK := Own.new w 24 (vs .u8 K)
  by_cases h44 : x.size < 44
  · have d1 : (x.size : Int) < 44 := by omega
    rw [openD, if_pos h44]
    go_enter Tryd.func41, Tryd.ntmps41
    go_wp2_with fail
    go_ret2
    exact ⟨rfl, b0⟩
  · have d1 : ¬ (x.size : Int) < 44 := by omega
    have d2 : ¬ ((x.size : Int) - 32 < 12) := by omega
    have d3 : (12 : Int) ≤ ((x.size - 32 : Nat) : Int) := by omega
    rw [openD, if_neg h44]
    have hk : Kf w (w.alloc (Obj.cells (vs .u8 K) 24)) K := ⟨oK, b0⟩
    obtain ⟨V, hV⟩ : ∃ V, V = w.alloc (Obj.cells (vs .u8 K) 24) := ⟨_, rfl⟩
    rw [← hV] at hk b0
    obtain ⟨B, hB⟩ : ∃ B, B = x.extract 0 (x.size - 32) := ⟨_, rfl⟩
    have zB : B.size = x.size - 32 := by rw [hB]; exact cut_size x h44
    obtain ⟨E, hE⟩ : ∃ E, E = x.extract 12 (x.size - 32) := ⟨_, rfl⟩
    have zE : E.size ≤ 10000 := by rw [hE]; simp; omega
    have eE : B.extract 12 (x.size - 32) = E := by rw [hB, hE]; exact cut_cut x h44
    obtain ⟨M, hM⟩ : ∃ M, M = nonD x := ⟨_, rfl⟩
    have lM : M.length = 12 := by rw [hM]; exact nonD_len x
    have bM : Bl.By M := by rw [hM]; exact nonD_by x
    obtain ⟨D, hD⟩ : ∃ D, D = tagD K h B := ⟨_, rfl⟩
    have lD : D.length = 32 := by rw [hD]; exact tagD_len _ _ _
    obtain ⟨X, hX⟩ : ∃ X, X = strm K M E := ⟨_, rfl⟩
    rw [← hB, ← hE, ← hM, ← hD, ← hX]
    obtain ⟨r, hr⟩ : ∃ r : ByteArray × Nat, r = if bs D = x.extract (x.size - 32) x.size then (X, 0) else (⟨#[]⟩, 5) := ⟨_, rfl⟩
    rw [← hr]
    replace hr := Lib.hid hr
    have h20 : ∀ wr, Below w.heap.size w wr → Calls Tryd.prog 48 #[.agg (vs .u8 K), .string h, .string B] wr fun e w' => e = .returned (.agg (vs .u8 D)) ∧ Below wr.heap.size wr w' := fun wr o => by
      rw [hD]; exact tag_any K h B wr hK lK (hT.below o) (by omega)
    have h15 : ∀ wr, Calls Tryd.prog 49 #[.string B] wr fun e w' => e = .returned (.agg (vs .u8 M)) ∧ Below wr.heap.size wr w' := fun wr => by
      have := nonce_any B wr
      rw [hB, nonD_cut x h44] at this; rw [hM, hB]; exact this
    have h19 : ∀ wr, Below w.heap.size w wr → Calls Tryd.prog 47 #[.agg (vs .u8 K), .agg (vs .u8 M), .string E] wr fun e w' => e = .returned (.string X) ∧ Below wr.heap.size wr w' := fun wr o => by
      rw [hX]; exact turn_any K M E wr hK bM lK lM (hT.below o) zE
    have HV := Lib.hid (And.intro hV hB)
    clear hV hB hE hM hD hX hT zE bM lM
    go_enter Tryd.func41, Tryd.ntmps41
    go_wp2_with (refine ld t28 rfl rfl rfl oK lK ?_)
    rw [← HV.out.1, ← HV.out.2]
    refine (h20 _ b0).mono ?_
    rintro e w2 ⟨rfl, hx⟩
    replace hk := hk.below hx
    clear hx oK b0
    have st : Kd w (w2.alloc (Obj.cells (vs .u8 D) 64)) K w2.heap.size D := ⟨hk.k.alloc _, Own.new _ _ _, hk.b.trans ((grow _ _).mono hk.b.size)⟩
    go_wp2_with (refine sto_new (l := D) t24 rfl rfl rfl rfl rfl rfl lD ?_)
    generalize w2.alloc (Obj.cells (vs .u8 D) 64) = W0 at *
    generalize w2.heap.size = g at *
    by_cases hq : bs D = x.extract (x.size - 32) x.size
    · replace hr := hr.out
      rw [if_pos hq] at hr
      subst hr
      refine wp_region_held_drew (S := fun w' => Kd w w' K g D) (by kernel_rfl) st.drew (fun hHeld => ?_)
      clear st
      generalize W0.drew = W1 at *
      refine wpAnyH_take (i := 0) (oi := { dst := some 22, op := Op.slice 64 (Operand.tmp 9) none none none, type := _, pos := _, after := _, guard := _ }) (v := ?_) rfl (by kernel_rfl) (by kernel_rfl) (by kernel_rfl) (fun _ _ _ h => h) (Or.inl ⟨by rfl, ?_⟩) hHeld ?_
      rotate_left
      · intro wq hSw
        go_simp
        rfl
      try simp only [Act.put, List.setIfInBounds_toArray, List.set_cons_zero, List.set_cons_succ]
      refine wpAnyH_take (i := 1) (oi := { dst := some 23, op := Op.convert 45 9 (Operand.tmp 22), type := _, pos := _, after := _, guard := _ }) rfl (by kernel_rfl) (by kernel_rfl) (by kernel_rfl) (fun _ _ _ h => h) (yconv (by rfl) _ rfl _ 32 rfl (fun w1 h => h.d) lD) hHeld ?_
      try simp only [Act.put, List.setIfInBounds_toArray, List.set_cons_zero, List.set_cons_succ]
      refine wpAnyH_take (i := 2) (oi := { dst := some 24, op := Op.move (Operand.tmp 2), type := _, pos := _, after := _, guard := _ }) (v := ?_) rfl (by kernel_rfl) (by kernel_rfl) (by kernel_rfl) (fun _ _ _ h => h) (Or.inl ⟨by rfl, ?_⟩) hHeld ?_
      rotate_left
      · intro wq hSw
        go_simp
        rfl
      try simp only [Act.put, List.setIfInBounds_toArray, List.set_cons_zero, List.set_cons_succ]
      refine wpAnyH_take (i := 3) (oi := { dst := some 25, op := Op.move (Operand.tmp 8), type := _, pos := _, after := _, guard := _ }) (v := ?_) rfl (by kernel_rfl) (by kernel_rfl) (by kernel_rfl) (fun _ _ _ h => h) (Or.inl ⟨by rfl, ?_⟩) hHeld ?_
      rotate_left
      · intro wq hSw
        go_simp
        rfl
      try simp only [Act.put, List.setIfInBounds_toArray, List.set_cons_zero, List.set_cons_succ]
      refine wpAnyH_take (i := 4) (oi := { dst := some 26, op := Op.call { callee := Callee.builtin Builtin.len, args := #[Operand.tmp 25], argTypes := #[9] }, type := _, pos := _, after := _, guard := _ }) (v := ?_) rfl (by kernel_rfl) (by kernel_rfl) (by kernel_rfl) (fun _ _ _ h => h) (Or.inl ⟨by rfl, ?_⟩) hHeld ?_
      rotate_left
      · intro wq hSw
        go_simp
        rfl
      try simp only [Act.put, List.setIfInBounds_toArray, List.set_cons_zero, List.set_cons_succ]
      refine wpAnyH_take (i := 5) (oi := { dst := some 27, op := Op.slice 9 (Operand.tmp 24) (some (Operand.tmp 26)) none none, type := _, pos := _, after := _, guard := _ }) (v := ?_) rfl (by kernel_rfl) (by kernel_rfl) (by kernel_rfl) (fun _ _ _ h => h) (Or.inl ⟨by rfl, ?_⟩) hHeld ?_
      rotate_left
      · intro wq hSw
        go_simp
        rfl
      try simp only [Act.put, List.setIfInBounds_toArray, List.set_cons_zero, List.set_cons_succ]
      refine wpAnyH_take (i := 6) (oi := { dst := some 28, op := Op.binOp BinOp.neq 9 (Operand.tmp 23) (Operand.tmp 27) 9, type := _, pos := _, after := _, guard := _ }) (v := ?_) rfl (by kernel_rfl) (by kernel_rfl) (by kernel_rfl) (fun _ _ _ h => h) (Or.inl ⟨by rfl, ?_⟩) hHeld ?_
      rotate_left
      · intro wq hSw
        go_simp
        rfl
      try simp only [Act.put, List.setIfInBounds_toArray, List.set_cons_zero, List.set_cons_succ]
      refine wpAnyH_done (by kernel_rfl) ?_ _
      go_wp2_with fail
      have hf := hHeld.kf
      clear hHeld
      refine wp_region_held_drew (S := fun w' => Kf w w' K) (by kernel_rfl) hf.drew (fun hHeld => ?_)
      clear hf
      generalize W1.drew = W3 at *
      refine wpAnyH_take (i := 0) (oi := { dst := some 29, op := Op.load 24 (Operand.tmp 3), type := _, pos := _, after := _, guard := _ }) rfl (by kernel_rfl) (by kernel_rfl) (by kernel_rfl) (fun _ _ _ h => h) (yl t28 (by rfl) _ rfl _ rfl (fun w1 h => h.k) lK) hHeld ?_
      try simp only [Act.put, List.setIfInBounds_toArray, List.set_cons_zero, List.set_cons_succ]
      refine wpAnyH_take (i := 1) (oi := { dst := some 30, op := Op.move (Operand.tmp 8), type := _, pos := _, after := _, guard := _ }) (v := ?_) rfl (by kernel_rfl) (by kernel_rfl) (by kernel_rfl) (fun _ _ _ h => h) (Or.inl ⟨by rfl, ?_⟩) hHeld ?_
      rotate_left
      · intro wq hSw
        go_simp
        rfl
      try simp only [Act.put, List.setIfInBounds_toArray, List.set_cons_zero, List.set_cons_succ]
      refine wpAnyH_take (i := 3) (oi := { dst := some 32, op := Op.move (Operand.tmp 8), type := _, pos := _, after := _, guard := _ }) (v := ?_) rfl (by kernel_rfl) (by kernel_rfl) (by kernel_rfl) (fun _ _ _ h => h) (Or.inl ⟨by rfl, ?_⟩) hHeld ?_
      rotate_left
      · intro wq hSw
        go_simp
        rfl
      try simp only [Act.put, List.setIfInBounds_toArray, List.set_cons_zero, List.set_cons_succ]
      refine wpAnyH_take (i := 4) (oi := { dst := some 33, op := Op.slice 9 (Operand.tmp 32) (some (Operand.const (Value.int IntKind.i64 12))) none none, type := _, pos := _, after := _, guard := _ }) (v := ?_) rfl (by kernel_rfl) (by kernel_rfl) (by kernel_rfl) (fun _ _ _ h => h) (Or.inl ⟨by rfl, ?_⟩) hHeld ?_
      rotate_left
      · intro wq hSw
        go_simp
        rfl
      try simp only [Act.put, List.setIfInBounds_toArray, List.set_cons_zero, List.set_cons_succ]
      refine wpAnyH_ready (rs := [2]) (by kernel_rfl) (by simp) ?_
      refine AllReadyH.cons (o := { dst := some 31, op := Op.call { callee := Callee.value (Operand.func 49), args := #[Operand.tmp 30], argTypes := #[9] }, type := _, pos := _, after := _, guard := _ }) rfl (fun KK hKK => ?_) AllReadyH.nil
      have hKS := Lib.hid hKK
      clear hKK
      go_simp
      refine (h15 _).mono ?_
      rintro e w2 ⟨rfl, hx⟩
      go_wp2_with fail
      refine hKS.out.out _ _ (hHeld.below hx) (fun hHeld => ?_)
      clear hKS KK hx
      try simp only [Act.put, List.setIfInBounds_toArray, List.set_cons_zero, List.set_cons_succ]
      refine wpAnyH_ready (rs := [5]) (by kernel_rfl) (by simp) ?_
      refine AllReadyH.cons (o := { dst := some 34, op := Op.call { callee := Callee.value (Operand.func 47), args := #[Operand.tmp 29, Operand.tmp 31, Operand.tmp 33], argTypes := #[24, 54, 9] }, type := _, pos := _, after := _, guard := _ }) rfl (fun KK hKK => ?_) AllReadyH.nil
      have hKS := Lib.hid hKK
      clear hKK
      go_simp
      refine (h19 _ hHeld.b).mono ?_
      rintro e w5 ⟨rfl, hx⟩
      go_wp2_with fail
      refine hKS.out.out _ _ (hHeld.below hx) (fun hHeld => ?_)
      clear hKS KK hx
      try simp only [Act.put, List.setIfInBounds_toArray, List.set_cons_zero, List.set_cons_succ]
      refine wpAnyH_take (i := 6) (oi := { dst := some 6, op := Op.assign (Operand.tmp 34), type := _, pos := _, after := _, guard := _ }) (v := ?_) rfl (by kernel_rfl) (by kernel_rfl) (by kernel_rfl) (fun _ _ _ h => h) (Or.inl ⟨by rfl, ?_⟩) hHeld ?_
      rotate_left
      · intro wq hSw
        go_simp
        rfl
      try simp only [Act.put, List.setIfInBounds_toArray, List.set_cons_zero, List.set_cons_succ]
      refine wpAnyH_take (i := 7) (oi := { dst := some 7, op := Op.assign (Operand.const (Value.int IntKind.i64 0)), type := _, pos := _, after := _, guard := _ }) (v := ?_) rfl (by kernel_rfl) (by kernel_rfl) (by kernel_rfl) (fun _ _ _ h => h) (Or.inl ⟨by rfl, ?_⟩) hHeld ?_
      rotate_left
      · intro wq hSw
        go_simp
        rfl
      try simp only [Act.put, List.setIfInBounds_toArray, List.set_cons_zero, List.set_cons_succ]
      refine wpAnyH_done (by kernel_rfl) ?_ _
      go_wp2_with fail
      go_ret2
      exact ⟨rfl, hHeld.b⟩
    · replace hr := hr.out
      rw [if_neg hq] at hr
      subst hr
      have hqb := str_no hq
      refine wp_region_held_drew (S := fun w' => Kd w w' K g D) (by kernel_rfl) st.drew (fun hHeld => ?_)
      clear st
      generalize W0.drew = W1 at *
      refine wpAnyH_take (i := 0) (oi := { dst := some 22, op := Op.slice 64 (Operand.tmp 9) none none none, type := _, pos := _, after := _, guard := _ }) (v := ?_) rfl (by kernel_rfl) (by kernel_rfl) (by kernel_rfl) (fun _ _ _ h => h) (Or.inl ⟨by rfl, ?_⟩) hHeld ?_
      rotate_left
      · intro wq hSw
        go_simp
        rfl
      try simp only [Act.put, List.setIfInBounds_toArray, List.set_cons_zero, List.set_cons_succ]
      refine wpAnyH_take (i := 1) (oi := { dst := some 23, op := Op.convert 45 9 (Operand.tmp 22), type := _, pos := _, after := _, guard := _ }) rfl (by kernel_rfl) (by kernel_rfl) (by kernel_rfl) (fun _ _ _ h => h) (yconv (by rfl) _ rfl _ 32 rfl (fun w1 h => h.d) lD) hHeld ?_
      try simp only [Act.put, List.setIfInBounds_toArray, List.set_cons_zero, List.set_cons_succ]
      refine wpAnyH_take (i := 2) (oi := { dst := some 24, op := Op.move (Operand.tmp 2), type := _, pos := _, after := _, guard := _ }) (v := ?_) rfl (by kernel_rfl) (by kernel_rfl) (by kernel_rfl) (fun _ _ _ h => h) (Or.inl ⟨by rfl, ?_⟩) hHeld ?_
      rotate_left
      · intro wq hSw
        go_simp
        rfl
      try simp only [Act.put, List.setIfInBounds_toArray, List.set_cons_zero, List.set_cons_succ]
      refine wpAnyH_take (i := 3) (oi := { dst := some 25, op := Op.move (Operand.tmp 8), type := _, pos := _, after := _, guard := _ }) (v := ?_) rfl (by kernel_rfl) (by kernel_rfl) (by kernel_rfl) (fun _ _ _ h => h) (Or.inl ⟨by rfl, ?_⟩) hHeld ?_
      rotate_left
      · intro wq hSw
        go_simp
        rfl
      try simp only [Act.put, List.setIfInBounds_toArray, List.set_cons_zero, List.set_cons_succ]
      refine wpAnyH_take (i := 4) (oi := { dst := some 26, op := Op.call { callee := Callee.builtin Builtin.len, args := #[Operand.tmp 25], argTypes := #[9] }, type := _, pos := _, after := _, guard := _ }) (v := ?_) rfl (by kernel_rfl) (by kernel_rfl) (by kernel_rfl) (fun _ _ _ h => h) (Or.inl ⟨by rfl, ?_⟩) hHeld ?_
      rotate_left
      · intro wq hSw
        go_simp
        rfl
      try simp only [Act.put, List.setIfInBounds_toArray, List.set_cons_zero, List.set_cons_succ]
      refine wpAnyH_take (i := 5) (oi := { dst := some 27, op := Op.slice 9 (Operand.tmp 24) (some (Operand.tmp 26)) none none, type := _, pos := _, after := _, guard := _ }) (v := ?_) rfl (by kernel_rfl) (by kernel_rfl) (by kernel_rfl) (fun _ _ _ h => h) (Or.inl ⟨by rfl, ?_⟩) hHeld ?_
      rotate_left
      · intro wq hSw
        go_simp
        rfl
      try simp only [Act.put, List.setIfInBounds_toArray, List.set_cons_zero, List.set_cons_succ]
      refine wpAnyH_take (i := 6) (oi := { dst := some 28, op := Op.binOp BinOp.neq 9 (Operand.tmp 23) (Operand.tmp 27) 9, type := _, pos := _, after := _, guard := _ }) (v := ?_) rfl (by kernel_rfl) (by kernel_rfl) (by kernel_rfl) (fun _ _ _ h => h) (Or.inl ⟨by rfl, ?_⟩) hHeld ?_
      rotate_left
      · intro wq hSw
        go_simp
        rfl
      try simp only [Act.put, List.setIfInBounds_toArray, List.set_cons_zero, List.set_cons_succ]
      refine wpAnyH_done (by kernel_rfl) ?_ _
      go_wp2_with fail
      go_ret2
      exact ⟨rfl, hHeld.b⟩
set_option maxRecDepth 100000 in
set_option maxHeartbeats 2000000 in
theorem ropen_any (K : List Nat) (h x : ByteArray) (w : World) (hK : Bl.By K) (lK : K.length = 32) (hh : h.size ≤ 10000) (hs : x.size ≤ 10000) :
    Calls Tryd.prog 43 #[.agg (vs .u8 K), .string h, .string x] w fun e w' => e = .returned (.tuple #[.string (openD K h x).1, .int .i64 ((openD K h x).2 : Nat)]) ∧ Below w.heap.size w w' := by
  have b0 := grow w (Obj.cells (vs .u8 K) 24)
  have oK := Own.new w 24 (vs .u8 K)
  by_cases h44 : x.size < 44
  · have d1 : (x.size : Int) < 44 := by omega
    rw [openD, if_pos h44]
    go_enter Tryd.func43, Tryd.ntmps43
    go_wp2_with fail
    go_ret2
    exact ⟨rfl, b0⟩
  · have d1 : ¬ (x.size : Int) < 44 := by omega
    have d2 : ¬ ((x.size : Int) - 32 < 12) := by omega
    have d3 : (12 : Int) ≤ ((x.size - 32 : Nat) : Int) := by omega
    rw [openD, if_neg h44]
    have hk : Kf w (w.alloc (Obj.cells (vs .u8 K) 24)) K := ⟨oK, b0⟩
    obtain ⟨V, hV⟩ : ∃ V, V = w.alloc (Obj.cells (vs .u8 K) 24) := ⟨_, rfl⟩
    rw [← hV] at hk b0
    obtain ⟨B, hB⟩ : ∃ B, B = x.extract 0 (x.size - 32) := ⟨_, rfl⟩
    have zB : B.size = x.size - 32 := by rw [hB]; exact cut_size x h44
    obtain ⟨E, hE⟩ : ∃ E, E = x.extract 12 (x.size - 32) := ⟨_, rfl⟩
    have zE : E.size ≤ 10000 := by rw [hE]; simp; omega
    have eE : B.extract 12 (x.size - 32) = E := by rw [hB, hE]; exact cut_cut x h44
    obtain ⟨M, hM⟩ : ∃ M, M = nonD x := ⟨_, rfl⟩
    have lM : M.length = 12 := by rw [hM]; exact nonD_len x
    have bM : Bl.By M := by rw [hM]; exact nonD_by x
    obtain ⟨D, hD⟩ : ∃ D, D = tagD K h B := ⟨_, rfl⟩
    have lD : D.length = 32 := by rw [hD]; exact tagD_len _ _ _
    obtain ⟨X, hX⟩ : ∃ X, X = strm K M E := ⟨_, rfl⟩
    rw [← hB, ← hE, ← hM, ← hD, ← hX]
    obtain ⟨r, hr⟩ : ∃ r : ByteArray × Nat, r = if bs D = x.extract (x.size - 32) x.size then (X, 0) else (⟨#[]⟩, 5) := ⟨_, rfl⟩
    rw [← hr]
    replace hr := Lib.hid hr
    obtain ⟨C, hC⟩ : ∃ C, C = Bl.keyed K wC := ⟨_, rfl⟩
    have lC : C.length = 32 := by rw [hC]; exact keyed_len _ _
    have bC : Bl.By C := by rw [hC]; exact keyed_by _ _
    have h23 : ∀ wr, Calls Tryd.prog 57 #[.agg (vs .u8 K), .string h, .string B] wr fun e w' => e = .returned (.string (bs D)) ∧ Below wr.heap.size wr w' := fun wr => by
      rw [hD]; exact rtag_any K h B wr hK lK (by omega)
    have h16 : ∀ wr, Calls Tryd.prog 58 #[.string x] wr fun e w' => e = .returned (.agg (vs .u8 M)) ∧ Below wr.heap.size wr w' := fun wr => by
      rw [hM]; exact rnonce_any x wr (by omega)
    have h22 : ∀ wr, Calls Tryd.prog 56 #[.agg (vs .u8 K), .string ⟨#[99, 105, 112, 104, 101, 114]⟩] wr fun e w' => e = .returned (.agg (vs .u8 C)) ∧ Below wr.heap.size wr w' := fun wr => by
      have := rof_any K ⟨#[99, 105, 112, 104, 101, 114]⟩ wr hK lK (by show (6 : Nat) ≤ 1000; omega)
      rw [tn_C, ← hC] at this; exact this
    have h21 : ∀ wr, Calls Tryd.prog 55 #[.agg (vs .u8 C), .agg (vs .u8 M), .int .u32 1, .string E] wr fun e w' => e = .returned (.string X) ∧ Below wr.heap.size wr w' := fun wr => by
      have := rxor_one C M E bC bM lC lM zE wr
      rw [hX, strm, ← hC]; exact this
    have d4 : (32 : Int) ≤ (x.size : Int) := by omega
    have d5 : (x.size : Int) - 32 ≤ (x.size : Int) := by omega
    have n1 : ((x.size : Int) - 32).toNat = x.size - 32 := by omega
    have eB := hB.symm
    have e12 := hE.symm
    have HV := Lib.hid hV
    clear hV hB hE hM hD hX zE bM lM eE hC bC lC
    by_cases hq : bs D = x.extract (x.size - 32) x.size
    · replace hr := hr.out
      rw [if_pos hq] at hr
      subst hr
      have hqb := str_yes hq.symm
      have HQ := Lib.hid hq
      clear hq
      go_enter Tryd.func43, Tryd.ntmps43
      go_wp2_with fail
      rw [← HV.out]
      refine wp_region_held_drew (S := fun w' => Kf w w' K) (by kernel_rfl) hk.drew (fun hHeld => ?_)
      clear hk
      generalize V.drew = W1 at *
      refine wpAnyH_take (i := 0) (oi := { dst := some 14, op := Op.move (Operand.tmp 2), type := _, pos := _, after := _, guard := _ }) (v := ?_) rfl (by kernel_rfl) (by kernel_rfl) (by kernel_rfl) (fun _ _ _ h => h) (Or.inl ⟨by rfl, ?_⟩) hHeld ?_
      rotate_left
      · intro wq hSw
        go_simp
        rfl
      try simp only [Act.put, List.setIfInBounds_toArray, List.set_cons_zero, List.set_cons_succ]
      refine wpAnyH_take (i := 1) (oi := { dst := some 15, op := Op.move (Operand.tmp 8), type := _, pos := _, after := _, guard := _ }) (v := ?_) rfl (by kernel_rfl) (by kernel_rfl) (by kernel_rfl) (fun _ _ _ h => h) (Or.inl ⟨by rfl, ?_⟩) hHeld ?_
      rotate_left
      · intro wq hSw
        go_simp
        rfl
      try simp only [Act.put, List.setIfInBounds_toArray, List.set_cons_zero, List.set_cons_succ]
      refine wpAnyH_take (i := 2) (oi := { dst := some 16, op := Op.slice 9 (Operand.tmp 14) (some (Operand.tmp 15)) none none, type := _, pos := _, after := _, guard := _ }) (v := ?_) rfl (by kernel_rfl) (by kernel_rfl) (by kernel_rfl) (fun _ _ _ h => h) (Or.inl ⟨by rfl, ?_⟩) hHeld ?_
      rotate_left
      · intro wq hSw
        go_simp
        rfl
      try simp only [Act.put, List.setIfInBounds_toArray, List.set_cons_zero, List.set_cons_succ]
      refine wpAnyH_take (i := 3) (oi := { dst := some 17, op := Op.load 24 (Operand.tmp 3), type := _, pos := _, after := _, guard := _ }) rfl (by kernel_rfl) (by kernel_rfl) (by kernel_rfl) (fun _ _ _ h => h) (yl t28 (by rfl) _ rfl _ rfl (fun w1 h => h.k) lK) hHeld ?_
      try simp only [Act.put, List.setIfInBounds_toArray, List.set_cons_zero, List.set_cons_succ]
      refine wpAnyH_take (i := 4) (oi := { dst := some 18, op := Op.move (Operand.tmp 1), type := _, pos := _, after := _, guard := _ }) (v := ?_) rfl (by kernel_rfl) (by kernel_rfl) (by kernel_rfl) (fun _ _ _ h => h) (Or.inl ⟨by rfl, ?_⟩) hHeld ?_
      rotate_left
      · intro wq hSw
        go_simp
        rfl
      try simp only [Act.put, List.setIfInBounds_toArray, List.set_cons_zero, List.set_cons_succ]
      refine wpAnyH_take (i := 5) (oi := { dst := some 19, op := Op.move (Operand.tmp 2), type := _, pos := _, after := _, guard := _ }) (v := ?_) rfl (by kernel_rfl) (by kernel_rfl) (by kernel_rfl) (fun _ _ _ h => h) (Or.inl ⟨by rfl, ?_⟩) hHeld ?_
      rotate_left
      · intro wq hSw
        go_simp
        rfl
      try simp only [Act.put, List.setIfInBounds_toArray, List.set_cons_zero, List.set_cons_succ]
      refine wpAnyH_take (i := 6) (oi := { dst := some 20, op := Op.move (Operand.tmp 8), type := _, pos := _, after := _, guard := _ }) (v := ?_) rfl (by kernel_rfl) (by kernel_rfl) (by kernel_rfl) (fun _ _ _ h => h) (Or.inl ⟨by rfl, ?_⟩) hHeld ?_
      rotate_left
      · intro wq hSw
        go_simp
        rfl
      try simp only [Act.put, List.setIfInBounds_toArray, List.set_cons_zero, List.set_cons_succ]
      refine wpAnyH_take (i := 7) (oi := { dst := some 21, op := Op.slice 9 (Operand.tmp 19) none (some (Operand.tmp 20)) none, type := _, pos := _, after := _, guard := _ }) (v := ?_) rfl (by kernel_rfl) (by kernel_rfl) (by kernel_rfl) (fun _ _ _ h => h) (Or.inl ⟨by rfl, ?_⟩) hHeld ?_
      rotate_left
      · intro wq hSw
        go_simp
        rfl
      try simp only [Act.put, List.setIfInBounds_toArray, List.set_cons_zero, List.set_cons_succ]
      refine wpAnyH_ready (rs := [8]) (by kernel_rfl) (by simp) ?_
      refine AllReadyH.cons (o := { dst := some 22, op := Op.call { callee := Callee.value (Operand.func 57), args := #[Operand.tmp 17, Operand.tmp 18, Operand.tmp 21], argTypes := #[24, 9, 9] }, type := _, pos := _, after := _, guard := _ }) rfl (fun KK hKK => ?_) AllReadyH.nil
      have hKS := Lib.hid hKK
      clear hKK
      go_simp
      refine (h23 _).mono ?_
      rintro e w8 ⟨rfl, hx⟩
      go_wp2_with fail
      refine hKS.out.out _ _ (hHeld.below hx) (fun hHeld => ?_)
      clear hKS KK hx
      try simp only [Act.put, List.setIfInBounds_toArray, List.set_cons_zero, List.set_cons_succ]
      refine wpAnyH_take (i := 9) (oi := { dst := some 23, op := Op.binOp BinOp.neq 9 (Operand.tmp 16) (Operand.tmp 22) 9, type := _, pos := _, after := _, guard := _ }) (v := ?_) rfl (by kernel_rfl) (by kernel_rfl) (by kernel_rfl) (fun _ _ _ h => h) (Or.inl ⟨by rfl, ?_⟩) hHeld ?_
      rotate_left
      · intro wq hSw
        go_simp
        rfl
      try simp only [Act.put, List.setIfInBounds_toArray, List.set_cons_zero, List.set_cons_succ]
      refine wpAnyH_done (by kernel_rfl) ?_ _
      go_wp2_with fail
      refine wp_region_held_drew (S := fun w' => Kf w w' K) (by kernel_rfl) hHeld.drew (fun hHeld => ?_)
      generalize World.drew _ = W3 at *
      refine wpAnyH_take (i := 0) (oi := { dst := some 24, op := Op.load 24 (Operand.tmp 3), type := _, pos := _, after := _, guard := _ }) rfl (by kernel_rfl) (by kernel_rfl) (by kernel_rfl) (fun _ _ _ h => h) (yl t28 (by rfl) _ rfl _ rfl (fun w1 h => h.k) lK) hHeld ?_
      try simp only [Act.put, List.setIfInBounds_toArray, List.set_cons_zero, List.set_cons_succ]
      refine wpAnyH_take (i := 2) (oi := { dst := some 26, op := Op.move (Operand.tmp 2), type := _, pos := _, after := _, guard := _ }) (v := ?_) rfl (by kernel_rfl) (by kernel_rfl) (by kernel_rfl) (fun _ _ _ h => h) (Or.inl ⟨by rfl, ?_⟩) hHeld ?_
      rotate_left
      · intro wq hSw
        go_simp
        rfl
      try simp only [Act.put, List.setIfInBounds_toArray, List.set_cons_zero, List.set_cons_succ]
      refine wpAnyH_take (i := 4) (oi := { dst := some 28, op := Op.move (Operand.tmp 2), type := _, pos := _, after := _, guard := _ }) (v := ?_) rfl (by kernel_rfl) (by kernel_rfl) (by kernel_rfl) (fun _ _ _ h => h) (Or.inl ⟨by rfl, ?_⟩) hHeld ?_
      rotate_left
      · intro wq hSw
        go_simp
        rfl
      try simp only [Act.put, List.setIfInBounds_toArray, List.set_cons_zero, List.set_cons_succ]
      refine wpAnyH_take (i := 5) (oi := { dst := some 29, op := Op.move (Operand.tmp 8), type := _, pos := _, after := _, guard := _ }) (v := ?_) rfl (by kernel_rfl) (by kernel_rfl) (by kernel_rfl) (fun _ _ _ h => h) (Or.inl ⟨by rfl, ?_⟩) hHeld ?_
      rotate_left
      · intro wq hSw
        go_simp
        rfl
      try simp only [Act.put, List.setIfInBounds_toArray, List.set_cons_zero, List.set_cons_succ]
      refine wpAnyH_take (i := 6) (oi := { dst := some 30, op := Op.slice 9 (Operand.tmp 28) (some (Operand.const (Value.int IntKind.i64 12))) (some (Operand.tmp 29)) none, type := _, pos := _, after := _, guard := _ }) (v := ?_) rfl (by kernel_rfl) (by kernel_rfl) (by kernel_rfl) (fun _ _ _ h => h) (Or.inl ⟨by rfl, ?_⟩) hHeld ?_
      rotate_left
      · intro wq hSw
        go_simp
        rfl
      try simp only [Act.put, List.setIfInBounds_toArray, List.set_cons_zero, List.set_cons_succ]
      refine wpAnyH_ready (rs := [1]) (by kernel_rfl) (by simp) ?_
      refine AllReadyH.cons (o := { dst := some 25, op := Op.call { callee := Callee.value (Operand.func 56), args := #[Operand.tmp 24, Operand.const (Value.string { data := #[99, 105, 112, 104, 101, 114] })], argTypes := #[24, 9] }, type := _, pos := _, after := _, guard := _ }) rfl (fun KK hKK => ?_) AllReadyH.nil
      have hKS := Lib.hid hKK
      clear hKK
      go_simp
      refine (h22 _).mono ?_
      rintro e w1 ⟨rfl, hx⟩
      go_wp2_with fail
      refine hKS.out.out _ _ (hHeld.below hx) (fun hHeld => ?_)
      clear hKS KK hx
      try simp only [Act.put, List.setIfInBounds_toArray, List.set_cons_zero, List.set_cons_succ]
      refine wpAnyH_ready (rs := [3]) (by kernel_rfl) (by simp) ?_
      refine AllReadyH.cons (o := { dst := some 27, op := Op.call { callee := Callee.value (Operand.func 58), args := #[Operand.tmp 26], argTypes := #[9] }, type := _, pos := _, after := _, guard := _ }) rfl (fun KK hKK => ?_) AllReadyH.nil
      have hKS := Lib.hid hKK
      clear hKK
      go_simp
      refine (h16 _).mono ?_
      rintro e w3 ⟨rfl, hx⟩
      go_wp2_with fail
      refine hKS.out.out _ _ (hHeld.below hx) (fun hHeld => ?_)
      clear hKS KK hx
      try simp only [Act.put, List.setIfInBounds_toArray, List.set_cons_zero, List.set_cons_succ]
      refine wpAnyH_ready (rs := [7]) (by kernel_rfl) (by simp) ?_
      refine AllReadyH.cons (o := { dst := some 31, op := Op.call { callee := Callee.value (Operand.func 55), args := #[Operand.tmp 25, Operand.tmp 27, Operand.const (Value.int IntKind.u32 1), Operand.tmp 30], argTypes := #[24, 54, 37, 9] }, type := _, pos := _, after := _, guard := _ }) rfl (fun KK hKK => ?_) AllReadyH.nil
      have hKS := Lib.hid hKK
      clear hKK
      go_simp
      refine (h21 _).mono ?_
      rintro e w7 ⟨rfl, hx⟩
      go_wp2_with fail
      refine hKS.out.out _ _ (hHeld.below hx) (fun hHeld => ?_)
      clear hKS KK hx
      try simp only [Act.put, List.setIfInBounds_toArray, List.set_cons_zero, List.set_cons_succ]
      refine wpAnyH_take (i := 8) (oi := { dst := some 6, op := Op.assign (Operand.tmp 31), type := _, pos := _, after := _, guard := _ }) (v := ?_) rfl (by kernel_rfl) (by kernel_rfl) (by kernel_rfl) (fun _ _ _ h => h) (Or.inl ⟨by rfl, ?_⟩) hHeld ?_
      rotate_left
      · intro wq hSw
        go_simp
        rfl
      try simp only [Act.put, List.setIfInBounds_toArray, List.set_cons_zero, List.set_cons_succ]
      refine wpAnyH_take (i := 9) (oi := { dst := some 7, op := Op.assign (Operand.const (Value.int IntKind.i64 0)), type := _, pos := _, after := _, guard := _ }) (v := ?_) rfl (by kernel_rfl) (by kernel_rfl) (by kernel_rfl) (fun _ _ _ h => h) (Or.inl ⟨by rfl, ?_⟩) hHeld ?_
      rotate_left
      · intro wq hSw
        go_simp
        rfl
      try simp only [Act.put, List.setIfInBounds_toArray, List.set_cons_zero, List.set_cons_succ]
      refine wpAnyH_done (by kernel_rfl) ?_ _
      go_wp2_with fail
      go_ret2
      exact ⟨rfl, hHeld.b⟩
    · replace hr := hr.out
      rw [if_neg hq] at hr
      subst hr
      have hqb := str_no (Ne.symm hq)
      have HQ := Lib.hid hq
      clear hq
      go_enter Tryd.func43, Tryd.ntmps43
      go_wp2_with fail
      rw [← HV.out]
      refine wp_region_held_drew (S := fun w' => Kf w w' K) (by kernel_rfl) hk.drew (fun hHeld => ?_)
      clear hk
      generalize V.drew = W1 at *
      refine wpAnyH_take (i := 0) (oi := { dst := some 14, op := Op.move (Operand.tmp 2), type := _, pos := _, after := _, guard := _ }) (v := ?_) rfl (by kernel_rfl) (by kernel_rfl) (by kernel_rfl) (fun _ _ _ h => h) (Or.inl ⟨by rfl, ?_⟩) hHeld ?_
      rotate_left
      · intro wq hSw
        go_simp
        rfl
      try simp only [Act.put, List.setIfInBounds_toArray, List.set_cons_zero, List.set_cons_succ]
      refine wpAnyH_take (i := 1) (oi := { dst := some 15, op := Op.move (Operand.tmp 8), type := _, pos := _, after := _, guard := _ }) (v := ?_) rfl (by kernel_rfl) (by kernel_rfl) (by kernel_rfl) (fun _ _ _ h => h) (Or.inl ⟨by rfl, ?_⟩) hHeld ?_
      rotate_left
      · intro wq hSw
        go_simp
        rfl
      try simp only [Act.put, List.setIfInBounds_toArray, List.set_cons_zero, List.set_cons_succ]
      refine wpAnyH_take (i := 2) (oi := { dst := some 16, op := Op.slice 9 (Operand.tmp 14) (some (Operand.tmp 15)) none none, type := _, pos := _, after := _, guard := _ }) (v := ?_) rfl (by kernel_rfl) (by kernel_rfl) (by kernel_rfl) (fun _ _ _ h => h) (Or.inl ⟨by rfl, ?_⟩) hHeld ?_
      rotate_left
      · intro wq hSw
        go_simp
        rfl
      try simp only [Act.put, List.setIfInBounds_toArray, List.set_cons_zero, List.set_cons_succ]
      refine wpAnyH_take (i := 3) (oi := { dst := some 17, op := Op.load 24 (Operand.tmp 3), type := _, pos := _, after := _, guard := _ }) rfl (by kernel_rfl) (by kernel_rfl) (by kernel_rfl) (fun _ _ _ h => h) (yl t28 (by rfl) _ rfl _ rfl (fun w1 h => h.k) lK) hHeld ?_
      try simp only [Act.put, List.setIfInBounds_toArray, List.set_cons_zero, List.set_cons_succ]
      refine wpAnyH_take (i := 4) (oi := { dst := some 18, op := Op.move (Operand.tmp 1), type := _, pos := _, after := _, guard := _ }) (v := ?_) rfl (by kernel_rfl) (by kernel_rfl) (by kernel_rfl) (fun _ _ _ h => h) (Or.inl ⟨by rfl, ?_⟩) hHeld ?_
      rotate_left
      · intro wq hSw
        go_simp
        rfl
      try simp only [Act.put, List.setIfInBounds_toArray, List.set_cons_zero, List.set_cons_succ]
      refine wpAnyH_take (i := 5) (oi := { dst := some 19, op := Op.move (Operand.tmp 2), type := _, pos := _, after := _, guard := _ }) (v := ?_) rfl (by kernel_rfl) (by kernel_rfl) (by kernel_rfl) (fun _ _ _ h => h) (Or.inl ⟨by rfl, ?_⟩) hHeld ?_
      rotate_left
      · intro wq hSw
        go_simp
        rfl
      try simp only [Act.put, List.setIfInBounds_toArray, List.set_cons_zero, List.set_cons_succ]
      refine wpAnyH_take (i := 6) (oi := { dst := some 20, op := Op.move (Operand.tmp 8), type := _, pos := _, after := _, guard := _ }) (v := ?_) rfl (by kernel_rfl) (by kernel_rfl) (by kernel_rfl) (fun _ _ _ h => h) (Or.inl ⟨by rfl, ?_⟩) hHeld ?_
      rotate_left
      · intro wq hSw
        go_simp
        rfl
      try simp only [Act.put, List.setIfInBounds_toArray, List.set_cons_zero, List.set_cons_succ]
      refine wpAnyH_take (i := 7) (oi := { dst := some 21, op := Op.slice 9 (Operand.tmp 19) none (some (Operand.tmp 20)) none, type := _, pos := _, after := _, guard := _ }) (v := ?_) rfl (by kernel_rfl) (by kernel_rfl) (by kernel_rfl) (fun _ _ _ h => h) (Or.inl ⟨by rfl, ?_⟩) hHeld ?_
      rotate_left
      · intro wq hSw
        go_simp
        rfl
      try simp only [Act.put, List.setIfInBounds_toArray, List.set_cons_zero, List.set_cons_succ]
      refine wpAnyH_ready (rs := [8]) (by kernel_rfl) (by simp) ?_
      refine AllReadyH.cons (o := { dst := some 22, op := Op.call { callee := Callee.value (Operand.func 57), args := #[Operand.tmp 17, Operand.tmp 18, Operand.tmp 21], argTypes := #[24, 9, 9] }, type := _, pos := _, after := _, guard := _ }) rfl (fun KK hKK => ?_) AllReadyH.nil
      have hKS := Lib.hid hKK
      clear hKK
      go_simp
      refine (h23 _).mono ?_
      rintro e w8 ⟨rfl, hx⟩
      go_wp2_with fail
      refine hKS.out.out _ _ (hHeld.below hx) (fun hHeld => ?_)
      clear hKS KK hx
      try simp only [Act.put, List.setIfInBounds_toArray, List.set_cons_zero, List.set_cons_succ]
      refine wpAnyH_take (i := 9) (oi := { dst := some 23, op := Op.binOp BinOp.neq 9 (Operand.tmp 16) (Operand.tmp 22) 9, type := _, pos := _, after := _, guard := _ }) (v := ?_) rfl (by kernel_rfl) (by kernel_rfl) (by kernel_rfl) (fun _ _ _ h => h) (Or.inl ⟨by rfl, ?_⟩) hHeld ?_
      rotate_left
      · intro wq hSw
        go_simp
        rfl
      try simp only [Act.put, List.setIfInBounds_toArray, List.set_cons_zero, List.set_cons_succ]
      refine wpAnyH_done (by kernel_rfl) ?_ _
      go_wp2_with fail
      go_ret2
      exact ⟨rfl, hHeld.b⟩
end Go.Proofs.YtaoaebdjinlcnaaDoor
