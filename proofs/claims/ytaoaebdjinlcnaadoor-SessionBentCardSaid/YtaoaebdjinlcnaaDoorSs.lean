/-
  THE WALKS of seal's Seal and of the document's.
-/
import Derived.Test.YtaoaebdjinlcnaaDoorSn
set_option linter.unusedVariables false
set_option linter.unusedSimpArgs false
set_option maxRecDepth 100000
namespace Go.Proofs.YtaoaebdjinlcnaaDoor
open Go.RowKit
/-- the bytes of an array that lies known are a text whenever they are asked -/
theorem yconv {ops : Array Oper} {S : World → Prop} {o : Oper} {a : Act} (hw : Region.wanted o (yielded ops a.tmps) = true) (x : Operand) (ho : o.op = .convert 45 9 x) (g n : Nat)
    (hx : a.eval x = .slice (some ⟨g, 0, none⟩) n n) {t : TypeId} {L : List Nat} (hS : ∀ w, S w → Own w g t (vs .u8 L)) (hl : L.length = n) : YieldsIf Tryd.prog ops S o (.string (bs L)) a :=
  .inl ⟨hw, fun w hw' => by
    unfold execOp
    simp only [ho, hx, bs_conv w g t L n hl (hS w hw'), Sem.run_bind, Sem.run_pure, Result.andThen_ok, Result.andThen]⟩
set_option maxRecDepth 100000 in
set_option maxHeartbeats 2000000 in
theorem seal_any (K N : List Nat) (h s : ByteArray) (w : World) (hK : Bl.By K) (hN : Bl.By N) (lK : K.length = 32) (lN : N.length = 12) (hT : Tab w) (hh : h.size ≤ 10000) (hs : s.size ≤ 10000) :
    Calls Tryd.prog 27 #[.agg (vs .u8 K), .agg (vs .u8 N), .string h, .string s] w fun e w' => e = .returned (.string (boxD K N h s)) ∧ Below w.heap.size w w' := by
  have zB : (bodyD K N s).size = s.size + 12 := bodyD_size lN
  obtain ⟨D, hD⟩ : ∃ D, D = tagD K h (bodyD K N s) := ⟨_, rfl⟩
  have lD : D.length = 32 := by rw [hD]; exact tagD_len _ _ _
  obtain ⟨B, hB⟩ : ∃ B, B = bodyD K N s := ⟨_, rfl⟩
  obtain ⟨X, hX⟩ : ∃ X, X = strm K N s := ⟨_, rfl⟩
  have zX : X.size = s.size := by rw [hX]; exact strm_size _ _ _
  have eB : bs N ++ X = B := by rw [hB, hX]; rfl
  have eR : boxD K N h s = B ++ bs D := by rw [boxD, ← hB, hD, ← hB]
  have l1 : ¬ 9223372036854775807 < (bs N).size + X.size := by rw [bs_size]; omega
  have l2 : ¬ 9223372036854775807 < B.size + (bs D).size := by rw [bs_size, hB]; omega
  rw [eR]
  clear zX
  have h19 : ∀ wr, Tn w wr K N → Calls Tryd.prog 47 #[.agg (vs .u8 K), .agg (vs .u8 N), .string s] wr fun e w' => e = .returned (.string X) ∧ Below wr.heap.size wr w' := fun wr o => by
    rw [hX]; exact turn_any K N s wr hK hN lK lN (hT.below o.b) hs
  have h20 : ∀ wr, Tn w wr K N → Calls Tryd.prog 48 #[.agg (vs .u8 K), .string h, .string B] wr fun e w' => e = .returned (.agg (vs .u8 D)) ∧ Below wr.heap.size wr w' := fun wr o => by
    rw [hD, hB]; exact tag_any K h (bodyD K N s) wr hK lK (hT.below o.b) (by omega)
  clear eR hD hB hX hT zB
  have st := Tn.new w K N
  go_enter Tryd.func27, Tryd.ntmps27
  go_wp2_with fail
  change Code.wp _ _ _ _ ((w.alloc (Obj.cells (vs .u8 K) 24)).alloc (Obj.cells (vs .u8 N) 54))
  generalize (w.alloc (Obj.cells (vs .u8 K) 24)).alloc (Obj.cells (vs .u8 N) 54) = W0 at *
  refine wp_region_held_drew (S := fun w' => Tn w w' K N) (by kernel_rfl) st.drew (fun hHeld => ?_)
  clear st
  generalize W0.drew = W1 at *
  refine wpAnyH_take (i := 0) (oi := { dst := some 11, op := Op.slice 54 (Operand.tmp 5) none none none, type := _, pos := _, after := _, guard := _ }) (v := ?_) rfl (by kernel_rfl) (by kernel_rfl) (by kernel_rfl) (fun _ _ _ h => h) (Or.inl ⟨by rfl, ?_⟩) hHeld ?_
  rotate_left
  · intro wq hSw
    go_simp
    rfl
  try simp only [Act.put, List.setIfInBounds_toArray, List.set_cons_zero, List.set_cons_succ]
  refine wpAnyH_take (i := 1) (oi := { dst := some 12, op := Op.convert 45 9 (Operand.tmp 11), type := _, pos := _, after := _, guard := _ }) rfl (by kernel_rfl) (by kernel_rfl) (by kernel_rfl) (fun _ _ _ h => h) (yconv (by rfl) _ rfl _ 12 rfl (fun w1 h => h.n) lN) hHeld ?_
  try simp only [Act.put, List.setIfInBounds_toArray, List.set_cons_zero, List.set_cons_succ]
  refine wpAnyH_take (i := 2) (oi := { dst := some 13, op := Op.load 24 (Operand.tmp 4), type := _, pos := _, after := _, guard := _ }) rfl (by kernel_rfl) (by kernel_rfl) (by kernel_rfl) (fun _ _ _ h => h) (yl t28 (by rfl) _ rfl _ rfl (fun w1 h => h.k) lK) hHeld ?_
  try simp only [Act.put, List.setIfInBounds_toArray, List.set_cons_zero, List.set_cons_succ]
  refine wpAnyH_take (i := 3) (oi := { dst := some 14, op := Op.load 54 (Operand.tmp 5), type := _, pos := _, after := _, guard := _ }) rfl (by kernel_rfl) (by kernel_rfl) (by kernel_rfl) (fun _ _ _ h => h) (yl tN (by rfl) _ rfl _ rfl (fun w1 h => h.n) lN) hHeld ?_
  try simp only [Act.put, List.setIfInBounds_toArray, List.set_cons_zero, List.set_cons_succ]
  refine wpAnyH_take (i := 4) (oi := { dst := some 15, op := Op.move (Operand.tmp 3), type := _, pos := _, after := _, guard := _ }) (v := ?_) rfl (by kernel_rfl) (by kernel_rfl) (by kernel_rfl) (fun _ _ _ h => h) (Or.inl ⟨by rfl, ?_⟩) hHeld ?_
  rotate_left
  · intro wq hSw
    go_simp
    rfl
  try simp only [Act.put, List.setIfInBounds_toArray, List.set_cons_zero, List.set_cons_succ]
  refine wpAnyH_ready (rs := [5]) (by kernel_rfl) (by simp) ?_
  refine AllReadyH.cons (o := { dst := some 16, op := Op.call { callee := Callee.value (Operand.func 47), args := #[Operand.tmp 13, Operand.tmp 14, Operand.tmp 15], argTypes := #[24, 54, 9] }, type := _, pos := _, after := _, guard := _ }) rfl (fun KK hKK => ?_) AllReadyH.nil
  have hKS := Lib.hid hKK
  clear hKK
  go_simp
  refine (h19 _ hHeld).mono ?_
  rintro e w5 ⟨rfl, hx⟩
  go_wp2_with fail
  refine hKS.out.out _ _ (hHeld.below hx) (fun hHeld => ?_)
  clear hKS KK hx
  try simp only [Act.put, List.setIfInBounds_toArray, List.set_cons_zero, List.set_cons_succ]
  refine wpAnyH_take (i := 6) (oi := { dst := some 17, op := Op.binOp BinOp.add 9 (Operand.tmp 12) (Operand.tmp 16) 9, type := _, pos := _, after := _, guard := _ }) (v := ?_) rfl (by kernel_rfl) (by kernel_rfl) (by kernel_rfl) (fun _ _ _ h => h) (Or.inl ⟨by rfl, ?_⟩) hHeld ?_
  rotate_left
  · intro wq hSw
    go_simp
    rfl
  try simp only [Act.put, List.setIfInBounds_toArray, List.set_cons_zero, List.set_cons_succ]
  refine wpAnyH_take (i := 7) (oi := { dst := some 9, op := Op.assign (Operand.tmp 17), type := _, pos := _, after := _, guard := _ }) (v := ?_) rfl (by kernel_rfl) (by kernel_rfl) (by kernel_rfl) (fun _ _ _ h => h) (Or.inl ⟨by rfl, ?_⟩) hHeld ?_
  rotate_left
  · intro wq hSw
    go_simp
    rfl
  try simp only [Act.put, List.setIfInBounds_toArray, List.set_cons_zero, List.set_cons_succ]
  refine wpAnyH_done (by kernel_rfl) ?_ _
  go_wp2_with (refine ld t28 rfl rfl rfl hHeld.k lK ?_)
  refine (h20 _ hHeld).mono ?_
  rintro e w2 ⟨rfl, hx⟩
  have st := hHeld.below hx
  have oD := Own.new w2 64 (vs .u8 D)
  have cv := bs_conv _ _ _ D 32 lD oD
  have b2 := st.b.trans ((grow w2 (Obj.cells (vs .u8 D) 64)).mono st.b.size)
  clear hx hHeld
  go_wp2_with (refine sto_new (l := D) t24 rfl rfl rfl rfl rfl rfl lD ?_)
  go_ret
  exact ⟨rfl, b2⟩
set_option maxRecDepth 100000 in
set_option maxHeartbeats 2000000 in
theorem rseal_any (K N : List Nat) (h s : ByteArray) (w : World) (hK : Bl.By K) (hN : Bl.By N) (lK : K.length = 32) (lN : N.length = 12) (hh : h.size ≤ 10000) (hs : s.size ≤ 10000) :
    Calls Tryd.prog 33 #[.agg (vs .u8 K), .agg (vs .u8 N), .string h, .string s] w fun e w' => e = .returned (.string (boxD K N h s)) ∧ Below w.heap.size w w' := by
  have zB : (bodyD K N s).size = s.size + 12 := bodyD_size lN
  obtain ⟨D, hD⟩ : ∃ D, D = tagD K h (bodyD K N s) := ⟨_, rfl⟩
  have lD : D.length = 32 := by rw [hD]; exact tagD_len _ _ _
  obtain ⟨B, hB⟩ : ∃ B, B = bodyD K N s := ⟨_, rfl⟩
  obtain ⟨X, hX⟩ : ∃ X, X = strm K N s := ⟨_, rfl⟩
  have zX : X.size = s.size := by rw [hX]; exact strm_size _ _ _
  have eB : bs N ++ X = B := by rw [hB, hX]; rfl
  have eR : boxD K N h s = B ++ bs D := by rw [boxD, ← hB, hD, ← hB]
  have l1 : ¬ 9223372036854775807 < (bs N).size + X.size := by rw [bs_size]; omega
  have l2 : ¬ 9223372036854775807 < B.size + (bs D).size := by rw [bs_size, hB]; omega
  rw [eR]
  clear zX
  obtain ⟨C, hC⟩ : ∃ C, C = Bl.keyed K wC := ⟨_, rfl⟩
  have lC : C.length = 32 := by rw [hC]; exact keyed_len _ _
  have bC : Bl.By C := by rw [hC]; exact keyed_by _ _
  have h22 : ∀ wr, Calls Tryd.prog 56 #[.agg (vs .u8 K), .string ⟨#[99, 105, 112, 104, 101, 114]⟩] wr fun e w' => e = .returned (.agg (vs .u8 C)) ∧ Below wr.heap.size wr w' := fun wr => by
    have := rof_any K ⟨#[99, 105, 112, 104, 101, 114]⟩ wr hK lK (by show (6 : Nat) ≤ 1000; omega)
    rw [tn_C, ← hC] at this; exact this
  have h21 : ∀ wr, Calls Tryd.prog 55 #[.agg (vs .u8 C), .agg (vs .u8 N), .int .u32 1, .string s] wr fun e w' => e = .returned (.string X) ∧ Below wr.heap.size wr w' := fun wr => by
    have := rxor_one C N s bC hN lC lN hs wr
    rw [hX, strm, ← hC]; exact this
  have h23 : ∀ wr, Calls Tryd.prog 57 #[.agg (vs .u8 K), .string h, .string B] wr fun e w' => e = .returned (.string (bs D)) ∧ Below wr.heap.size wr w' := fun wr => by
    rw [hD, hB]; exact rtag_any K h (bodyD K N s) wr hK lK (by omega)
  clear eR hD hB hX hC bC zB
  have st := Tn.new w K N
  go_enter Tryd.func33, Tryd.ntmps33
  go_wp2_with fail
  change Code.wp _ _ _ _ ((w.alloc (Obj.cells (vs .u8 K) 24)).alloc (Obj.cells (vs .u8 N) 54))
  generalize (w.alloc (Obj.cells (vs .u8 K) 24)).alloc (Obj.cells (vs .u8 N) 54) = W0 at *
  refine wp_region_held_drew (S := fun w' => Tn w w' K N) (by kernel_rfl) st.drew (fun hHeld => ?_)
  clear st
  generalize W0.drew = W1 at *
  refine wpAnyH_take (i := 0) (oi := { dst := some 10, op := Op.slice 54 (Operand.tmp 5) none none none, type := _, pos := _, after := _, guard := _ }) (v := ?_) rfl (by kernel_rfl) (by kernel_rfl) (by kernel_rfl) (fun _ _ _ h => h) (Or.inl ⟨by rfl, ?_⟩) hHeld ?_
  rotate_left
  · intro wq hSw
    go_simp
    rfl
  try simp only [Act.put, List.setIfInBounds_toArray, List.set_cons_zero, List.set_cons_succ]
  refine wpAnyH_take (i := 1) (oi := { dst := some 11, op := Op.convert 45 9 (Operand.tmp 10), type := _, pos := _, after := _, guard := _ }) rfl (by kernel_rfl) (by kernel_rfl) (by kernel_rfl) (fun _ _ _ h => h) (yconv (by rfl) _ rfl _ 12 rfl (fun w1 h => h.n) lN) hHeld ?_
  try simp only [Act.put, List.setIfInBounds_toArray, List.set_cons_zero, List.set_cons_succ]
  refine wpAnyH_take (i := 2) (oi := { dst := some 12, op := Op.load 24 (Operand.tmp 4), type := _, pos := _, after := _, guard := _ }) rfl (by kernel_rfl) (by kernel_rfl) (by kernel_rfl) (fun _ _ _ h => h) (yl t28 (by rfl) _ rfl _ rfl (fun w1 h => h.k) lK) hHeld ?_
  try simp only [Act.put, List.setIfInBounds_toArray, List.set_cons_zero, List.set_cons_succ]
  refine wpAnyH_take (i := 4) (oi := { dst := some 14, op := Op.load 54 (Operand.tmp 5), type := _, pos := _, after := _, guard := _ }) rfl (by kernel_rfl) (by kernel_rfl) (by kernel_rfl) (fun _ _ _ h => h) (yl tN (by rfl) _ rfl _ rfl (fun w1 h => h.n) lN) hHeld ?_
  try simp only [Act.put, List.setIfInBounds_toArray, List.set_cons_zero, List.set_cons_succ]
  refine wpAnyH_take (i := 5) (oi := { dst := some 15, op := Op.move (Operand.tmp 3), type := _, pos := _, after := _, guard := _ }) (v := ?_) rfl (by kernel_rfl) (by kernel_rfl) (by kernel_rfl) (fun _ _ _ h => h) (Or.inl ⟨by rfl, ?_⟩) hHeld ?_
  rotate_left
  · intro wq hSw
    go_simp
    rfl
  try simp only [Act.put, List.setIfInBounds_toArray, List.set_cons_zero, List.set_cons_succ]
  refine wpAnyH_ready (rs := [3]) (by kernel_rfl) (by simp) ?_
  refine AllReadyH.cons (o := { dst := some 13, op := Op.call { callee := Callee.value (Operand.func 56), args := #[Operand.tmp 12, Operand.const (Value.string { data := #[99, 105, 112, 104, 101, 114] })], argTypes := #[24, 9] }, type := _, pos := _, after := _, guard := _ }) rfl (fun KK hKK => ?_) AllReadyH.nil
  have hKS := Lib.hid hKK
  clear hKK
  go_simp
  refine (h22 _).mono ?_
  rintro e w3 ⟨rfl, hx⟩
  go_wp2_with fail
  refine hKS.out.out _ _ (hHeld.below hx) (fun hHeld => ?_)
  clear hKS KK hx
  try simp only [Act.put, List.setIfInBounds_toArray, List.set_cons_zero, List.set_cons_succ]
  refine wpAnyH_ready (rs := [6]) (by kernel_rfl) (by simp) ?_
  refine AllReadyH.cons (o := { dst := some 16, op := Op.call { callee := Callee.value (Operand.func 55), args := #[Operand.tmp 13, Operand.tmp 14, Operand.const (Value.int IntKind.u32 1), Operand.tmp 15], argTypes := #[24, 54, 37, 9] }, type := _, pos := _, after := _, guard := _ }) rfl (fun KK hKK => ?_) AllReadyH.nil
  have hKS := Lib.hid hKK
  clear hKK
  go_simp
  refine (h21 _).mono ?_
  rintro e w6 ⟨rfl, hx⟩
  go_wp2_with fail
  refine hKS.out.out _ _ (hHeld.below hx) (fun hHeld => ?_)
  clear hKS KK hx
  try simp only [Act.put, List.setIfInBounds_toArray, List.set_cons_zero, List.set_cons_succ]
  refine wpAnyH_take (i := 7) (oi := { dst := some 17, op := Op.binOp BinOp.add 9 (Operand.tmp 11) (Operand.tmp 16) 9, type := _, pos := _, after := _, guard := _ }) (v := ?_) rfl (by kernel_rfl) (by kernel_rfl) (by kernel_rfl) (fun _ _ _ h => h) (Or.inl ⟨by rfl, ?_⟩) hHeld ?_
  rotate_left
  · intro wq hSw
    go_simp
    rfl
  try simp only [Act.put, List.setIfInBounds_toArray, List.set_cons_zero, List.set_cons_succ]
  refine wpAnyH_take (i := 8) (oi := { dst := some 9, op := Op.assign (Operand.tmp 17), type := _, pos := _, after := _, guard := _ }) (v := ?_) rfl (by kernel_rfl) (by kernel_rfl) (by kernel_rfl) (fun _ _ _ h => h) (Or.inl ⟨by rfl, ?_⟩) hHeld ?_
  rotate_left
  · intro wq hSw
    go_simp
    rfl
  try simp only [Act.put, List.setIfInBounds_toArray, List.set_cons_zero, List.set_cons_succ]
  refine wpAnyH_done (by kernel_rfl) ?_ _
  go_wp2_with (refine ld t28 rfl rfl rfl hHeld.k lK ?_)
  refine (h23 _).mono ?_
  rintro e w2 ⟨rfl, hx⟩
  have st := hHeld.below hx
  clear hx hHeld
  go_wp2_with fail
  go_ret
  exact ⟨rfl, st.b⟩
end Go.Proofs.YtaoaebdjinlcnaaDoor
