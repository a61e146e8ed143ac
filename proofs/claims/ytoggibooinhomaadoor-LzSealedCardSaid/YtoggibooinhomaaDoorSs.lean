/-
  THE WALKS of seal's Seal and of the document's.
-/
import Derived.Test.YtoggibooinhomaaDoorSn
namespace Go.Proofs.YtoggibooinhomaaDoor
set_option linter.unusedVariables false
set_option linter.unusedSimpArgs false
open Go.RowKit
/-- the bytes of an array that lies known are a text whenever they are asked -/
theorem yconv {ops : Array Oper} {S : World → Prop} {o : Oper} {a : Act} (hw : Region.wanted o (yielded ops a.tmps) = true) (x : Operand) (ho : o.op = .convert 36 9 x) (g n : Nat)
    (hx : a.eval x = .slice (some ⟨g, 0, none⟩) n n) {t : TypeId} {L : List Nat} (hS : ∀ w, S w → Own w g t (vs .u8 L)) (hl : L.length = n) : YieldsIf Tryd.prog ops S o (.string (bs L)) a :=
  .inl ⟨hw, fun w hw' => by
    unfold execOp
    simp only [ho, hx, bs_conv w g t L n hl (hS w hw'), Sem.run_bind, Sem.run_pure, Result.andThen_ok, Result.andThen]⟩
set_option maxRecDepth 100000 in
set_option maxHeartbeats 2000000 in
theorem seal_any (K N : List Nat) (h s : ByteArray) (w : World) (hK : Bl.By K) (hN : Bl.By N) (lK : K.length = 32) (lN : N.length = 12) (hT : Tab w) (hh : h.size ≤ 10000) (hs : s.size ≤ 10000) :
    Calls Tryd.prog 6 #[.agg (vs .u8 K), .agg (vs .u8 N), .string h, .string s] w fun e w' => e = .returned (.string (boxD K N h s)) ∧ Below w.heap.size w w' := by
  have zB : (bodyD K N s).size = s.size + 12 := bodyD_size lN
  obtain ⟨D, hD⟩ : ∃ D, D = tagD K h (bodyD K N s) := ⟨_, rfl⟩
  have lD : D.length = 32 := by rw [hD]; exact tagD_len _ _ _
  obtain ⟨B, hB⟩ : ∃ B, B = bodyD K N s := ⟨_, rfl⟩
  obtain ⟨X, hX⟩ : ∃ X, X = strm K N s := ⟨_, rfl⟩
  have zX : X.size = s.size := by rw [hX]; exact strm_size _ _ _
  have eB : bs N ++ X = B := by rw [hB, hX]; rfl
  have eR : boxD K N h s = B ++ bs D := by rw [boxD, ← hB, hD, ← hB]
  have l1 : ¬ 9223372036854775807 < (bs N).size + X.size := by rw [bs_size]; omega
  have l2 : ¬ 9223372036854775807 < B.size + (bs D).size := by rw [bs_size, hB]; omega
  rw [eR]
  clear zX
  have h19 : ∀ wr, Tn w wr K N → Calls Tryd.prog 11 #[.agg (vs .u8 K), .agg (vs .u8 N), .string s] wr fun e w' => e = .returned (.string X) ∧ Below wr.heap.size wr w' := fun wr o => by
    rw [hX]; exact turn_any K N s wr hK hN lK lN (hT.below o.b) hs
  have h20 : ∀ wr, Tn w wr K N → Calls Tryd.prog 10 #[.agg (vs .u8 K), .string h, .string B] wr fun e w' => e = .returned (.agg (vs .u8 D)) ∧ Below wr.heap.size wr w' := fun wr o => by
    rw [hD, hB]; exact tag_any K h (bodyD K N s) wr hK lK (hT.below o.b) (by omega)
  clear eR hD hB hX hT zB
  have st := Tn.new w K N
  go_enter Tryd.func6, Tryd.ntmps6
  go_wp2_with fail
  change Code.wp _ _ _ _ ((w.alloc (Obj.cells (vs .u8 K) 23)).alloc (Obj.cells (vs .u8 N) 29))
  generalize (w.alloc (Obj.cells (vs .u8 K) 23)).alloc (Obj.cells (vs .u8 N) 29) = W0 at *
  refine wp_region_held_drew (S := fun w' => Tn w w' K N) (by kernel_rfl) st.drew (fun hHeld => ?_)
  clear st
  generalize W0.drew = W1 at *
  refine wpAnyH_take (i := 0) (oi := { dst := some 11, op := Op.slice 29 (Operand.tmp 5) none none none, type := _, pos := _, after := _, guard := _ }) (v := ?_) rfl (by kernel_rfl) (by kernel_rfl) (by kernel_rfl) (fun _ _ _ h => h) (Or.inl ⟨by rfl, ?_⟩) hHeld ?_
  rotate_left
  · intro wq hSw
    go_simp
    rfl
  try simp only [Act.put, List.setIfInBounds_toArray, List.set_cons_zero, List.set_cons_succ]
  refine wpAnyH_take (i := 1) (oi := { dst := some 12, op := Op.convert 36 9 (Operand.tmp 11), type := _, pos := _, after := _, guard := _ }) rfl (by kernel_rfl) (by kernel_rfl) (by kernel_rfl) (fun _ _ _ h => h) (yconv (by rfl) _ rfl _ 12 rfl (fun w1 h => h.n) lN) hHeld ?_
  try simp only [Act.put, List.setIfInBounds_toArray, List.set_cons_zero, List.set_cons_succ]
  refine wpAnyH_take (i := 2) (oi := { dst := some 13, op := Op.load 23 (Operand.tmp 4), type := _, pos := _, after := _, guard := _ }) rfl (by kernel_rfl) (by kernel_rfl) (by kernel_rfl) (fun _ _ _ h => h) (yl t28 (by rfl) _ rfl _ rfl (fun w1 h => h.k) lK) hHeld ?_
  try simp only [Act.put, List.setIfInBounds_toArray, List.set_cons_zero, List.set_cons_succ]
  refine wpAnyH_take (i := 3) (oi := { dst := some 14, op := Op.load 29 (Operand.tmp 5), type := _, pos := _, after := _, guard := _ }) rfl (by kernel_rfl) (by kernel_rfl) (by kernel_rfl) (fun _ _ _ h => h) (yl tN (by rfl) _ rfl _ rfl (fun w1 h => h.n) lN) hHeld ?_
  try simp only [Act.put, List.setIfInBounds_toArray, List.set_cons_zero, List.set_cons_succ]
  refine wpAnyH_take (i := 4) (oi := { dst := some 15, op := Op.move (Operand.tmp 3), type := _, pos := _, after := _, guard := _ }) (v := ?_) rfl (by kernel_rfl) (by kernel_rfl) (by kernel_rfl) (fun _ _ _ h => h) (Or.inl ⟨by rfl, ?_⟩) hHeld ?_
  rotate_left
  · intro wq hSw
    go_simp
    rfl
  try simp only [Act.put, List.setIfInBounds_toArray, List.set_cons_zero, List.set_cons_succ]
  refine wpAnyH_ready (rs := [5]) (by kernel_rfl) (by simp) ?_
  refine AllReadyH.cons (o := { dst := some 16, op := Op.call { callee := Callee.value (Operand.func 11), args := #[Operand.tmp 13, Operand.tmp 14, Operand.tmp 15], argTypes := #[23, 29, 9] }, type := _, pos := _, after := _, guard := _ }) rfl (fun KK hKK => ?_) AllReadyH.nil
  have hKS := Lib.hid hKK
  clear hKK
  go_simp
  refine (h19 _ hHeld).mono ?_
  rintro e w5 ⟨rfl, hx⟩
  go_wp2_with fail
  refine hKS.out.out _ _ (hHeld.below hx) (fun hHeld => ?_)
  clear hKS KK hx
  try simp only [Act.put, List.setIfInBounds_toArray, List.set_cons_zero, List.set_cons_succ]
  refine wpAnyH_take (i := 6) (oi := { dst := some 17, op := Op.binOp BinOp.add 9 (Operand.tmp 12) (Operand.tmp 16) 9, type := _, pos := _, after := _, guard := _ }) (v := ?_) rfl (by kernel_rfl) (by kernel_rfl) (by kernel_rfl) (fun _ _ _ h => h) (Or.inl ⟨by rfl, ?_⟩) hHeld ?_
  rotate_left
  · intro wq hSw
    go_simp
    rfl
  try simp only [Act.put, List.setIfInBounds_toArray, List.set_cons_zero, List.set_cons_succ]
  refine wpAnyH_take (i := 7) (oi := { dst := some 9, op := Op.assign (Operand.tmp 17), type := _, pos := _, after := _, guard := _ }) (v := ?_) rfl (by kernel_rfl) (by kernel_rfl) (by kernel_rfl) (fun _ _ _ h => h) (Or.inl ⟨by rfl, ?_⟩) hHeld ?_
  rotate_left
  · intro wq hSw
    go_simp
    rfl
  try simp only [Act.put, List.setIfInBounds_toArray, List.set_cons_zero, List.set_cons_succ]
  refine wpAnyH_done (by kernel_rfl) ?_ _
  go_wp2_with (refine ld t28 rfl rfl rfl hHeld.k lK ?_)
  refine (h20 _ hHeld).mono ?_
  rintro e w2 ⟨rfl, hx⟩
  have st := hHeld.below hx
  have oD := Own.new w2 34 (vs .u8 D)
  have cv := bs_conv _ _ _ D 32 lD oD
  have b2 := st.b.trans ((grow w2 (Obj.cells (vs .u8 D) 34)).mono st.b.size)
  clear hx hHeld
  go_wp2_with (refine sto_new (l := D) t24 rfl rfl rfl rfl rfl rfl lD ?_)
  go_ret
  exact ⟨rfl, b2⟩
end Go.Proofs.YtoggibooinhomaaDoor
