/-
  For every key and every text the law LzSealed of package lz returns true: the packed text, sealed with its own nonce and opened, is unpacked to the text itself, and the arguments read behind the call as they read before; the package variables are laid by the program's own text.
-/
import Derived.Test.YtoggibooinhomaaDoorRows
import Derived.Test.YtoggibooinhomaaDoorCards
import Derived.Test.YtoggibooinhomaaDoorTie
import Derived.Test.YtoggibooinhomaaDoorSq
import Derived.Test.YtoggibooinhomaaDoorZLv
import Derived.Test.YtoggibooinhomaaDoorLa
import Derived.Test.YtoggibooinhomaaDoorKf
import Derived.OrdersHeld
import Derived.WalkKit
import Derived.ProofKit
import Derived.LaidMore
import Derived.OpenShut
import Derived.ShutString
import Derived.Stop.Joined
namespace Go.Proofs.YtoggibooinhomaaDoor.lzSealed
open Go.ChangeShapes Go.WideShapes Go.ChangeAt Go.RowKit
open Go.ChangeMaps (open_string shut_string)
set_option linter.unusedVariables false
set_option linter.unusedSimpArgs false

theorem own : ownKnob Tryd.prog.godebug = none := by kernel_rfl
theorem door_met (os : Os) (args : Array Value) : laidMetH Tryd.prog lay2 ((World.doorLaid Tryd.prog 400 os).forCall (fun _ _ => 0) ⟨#[], args, []⟩).memory :=
  laidMetH_of_parts3 (fuel := 8) (laidMet_of_run' 8 (by kernel_rfl) (by kernel_rfl)) (by kernel_rfl) (by kernel_rfl)
/-- the key lies in the call's first block -/
theorem okKey {W : World} {base : Nat} {v : Value} (h : Value.okWide Tryd.prog W .any base 23 v) : ∃ K : List Nat, v = .agg (vs .u8 K) ∧ Bl.By K ∧ K.length = 32 := by
  obtain ⟨K, h1, h2, h3⟩ := okArr t28 (by kernel_rfl) (by kernel_rfl) h
  exact ⟨K, h1, h3, h2⟩
set_option maxRecDepth 100000 in
set_option maxHeartbeats 4000000 in
theorem walk (K : List Nat) (s : ByteArray) (hKl : Bl.By K ∧ K.length = 32) (ws : s.size ≤ 9223372036854775807) (w : World) (hT : Tab w) :
    Calls Tryd.prog 3 #[.agg (vs .u8 K), .string s] w fun e w' => e = .returned (.bool true) ∧ Below w.heap.size w w' := by
  obtain ⟨hK, lK⟩ := hKl
  obtain ⟨V, hV⟩ : ∃ V, V = w.alloc (Obj.cells (vs .u8 K) 23) := ⟨_, rfl⟩
  have st : Kf w (w.alloc (Obj.cells (vs .u8 K) 23)) K := ⟨Own.new _ _ _, grow _ _⟩
  rw [← hV] at st
  have HV := Lib.hid hV
  clear hV
  by_cases hbig : 600 < s.size
  · go_enter Tryd.func3, Tryd.ntmps3
    go_wp2_with fail
    change Calls _ _ _ (w.alloc (Obj.cells (vs .u8 K) 23)) _
    rw [← HV.out]
    refine (Z.alive_any _).mono ?_
    rintro e w1 ⟨rfl, hx⟩
    replace st := st.below hx
    go_wp2_with fail
    go_ret
    exact ⟨rfl, st.b⟩
  · obtain ⟨M, hM⟩ : ∃ M, M = nonD s := ⟨_, rfl⟩
    have lM : M.length = 12 := by rw [hM]; exact nonD_len s
    have bM : Bl.By M := by rw [hM]; exact nonD_by s
    have h7 := fun wr => nonce_any s wr
    rw [← hM] at h7
    have h8 := fun wr => Z.pack_any s wr (by omega)
    have h9 := fun wr => Z.un_back s (s.size : Int) wr (by omega) (by omega) (by omega) (by omega)
    have zP := Z.pk_size s
    generalize Z.ofL (Z.Lz.pack (Z.toL s)) = P at *
    have h6 := fun wr (o : Kf w wr K) => seal_any K M ⟨#[108, 122]⟩ P wr hK bM lK lM (hT.below o.b) (by decide) (by omega)
    have zb : (boxD K M ⟨#[108, 122]⟩ P).size = P.size + 44 := boxD_size lM
    have h5 := fun wr (o : Kf w wr K) => open_any K ⟨#[108, 122]⟩ (boxD K M ⟨#[108, 122]⟩ P) wr hK lK (hT.below o.b) (by decide) (by omega)
    rw [open_seal bM lM] at h5
    generalize boxD K M ⟨#[108, 122]⟩ P = B at *
    clear hT hM zb zP bM hK
    go_enter Tryd.func3, Tryd.ntmps3
    go_wp2_with fail
    change Code.wp _ _ _ _ (w.alloc (Obj.cells (vs .u8 K) 23))
    rw [← HV.out]
    clear HV
    refine wp_region_held_drew (S := fun w' => Kf w w' K) (by kernel_rfl) st.drew (fun hHeld => ?_)
    clear st
    generalize V.drew = W2 at *
    refine wpAnyH_take (i := 0) (oi := { dst := some 14, op := Op.load 23 (Operand.tmp 2), type := _, pos := _, after := _, guard := _ }) rfl (by kernel_rfl) (by kernel_rfl) (by kernel_rfl) (fun _ _ _ h => h) (yl t28 (by rfl) _ rfl _ rfl (fun w1 h => h.k) lK) hHeld ?_
    try simp only [Act.put, List.setIfInBounds_toArray, List.set_cons_zero, List.set_cons_succ]
    refine wpAnyH_take (i := 1) (oi := { dst := some 15, op := Op.load 23 (Operand.tmp 2), type := _, pos := _, after := _, guard := _ }) rfl (by kernel_rfl) (by kernel_rfl) (by kernel_rfl) (fun _ _ _ h => h) (yl t28 (by rfl) _ rfl _ rfl (fun w1 h => h.k) lK) hHeld ?_
    try simp only [Act.put, List.setIfInBounds_toArray, List.set_cons_zero, List.set_cons_succ]
    refine wpAnyH_take (i := 2) (oi := { dst := some 16, op := Op.move (Operand.tmp 1), type := _, pos := _, after := _, guard := _ }) (v := ?_) rfl (by kernel_rfl) (by kernel_rfl) (by kernel_rfl) (fun _ _ _ h => h) (Or.inl ⟨by rfl, ?_⟩) hHeld ?_
    rotate_left
    · intro wq hSw
      go_simp
      rfl
    try simp only [Act.put, List.setIfInBounds_toArray, List.set_cons_zero, List.set_cons_succ]
    refine wpAnyH_take (i := 4) (oi := { dst := some 18, op := Op.move (Operand.tmp 1), type := _, pos := _, after := _, guard := _ }) (v := ?_) rfl (by kernel_rfl) (by kernel_rfl) (by kernel_rfl) (fun _ _ _ h => h) (Or.inl ⟨by rfl, ?_⟩) hHeld ?_
    rotate_left
    · intro wq hSw
      go_simp
      rfl
    try simp only [Act.put, List.setIfInBounds_toArray, List.set_cons_zero, List.set_cons_succ]
    refine wpAnyH_ready (rs := [3]) (by kernel_rfl) (by simp) ?_
    refine AllReadyH.cons (o := { dst := some 17, op := Op.call { callee := Callee.value (Operand.func 7), args := #[Operand.tmp 16], argTypes := #[9] }, type := _, pos := _, after := _, guard := _ }) rfl (fun KK hKK => ?_) AllReadyH.nil
    have hKS := Lib.hid hKK
    clear hKK
    go_simp
    refine (h7 _).mono ?_
    rintro e w3 ⟨rfl, hx⟩
    go_wp2_with fail
    refine hKS.out.out _ _ (hHeld.below hx) (fun hHeld => ?_)
    clear hKS KK hx
    try simp only [Act.put, List.setIfInBounds_toArray, List.set_cons_zero, List.set_cons_succ]
    refine wpAnyH_ready (rs := [5]) (by kernel_rfl) (by simp) ?_
    refine AllReadyH.cons (o := { dst := some 19, op := Op.call { callee := Callee.value (Operand.func 8), args := #[Operand.tmp 18], argTypes := #[9] }, type := _, pos := _, after := _, guard := _ }) rfl (fun KK hKK => ?_) AllReadyH.nil
    have hKS := Lib.hid hKK
    clear hKK
    go_simp
    refine (h8 _).mono ?_
    rintro e w5 ⟨rfl, hx⟩
    go_wp2_with fail
    refine hKS.out.out _ _ (hHeld.below hx) (fun hHeld => ?_)
    clear hKS KK hx
    try simp only [Act.put, List.setIfInBounds_toArray, List.set_cons_zero, List.set_cons_succ]
    refine wpAnyH_ready (rs := [6]) (by kernel_rfl) (by simp) ?_
    refine AllReadyH.cons (o := { dst := some 20, op := Op.call { callee := Callee.value (Operand.func 6), args := #[Operand.tmp 15, Operand.tmp 17, Operand.const (Value.string { data := #[108, 122] }), Operand.tmp 19], argTypes := #[23, 29, 9, 9] }, type := _, pos := _, after := _, guard := _ }) rfl (fun KK hKK => ?_) AllReadyH.nil
    have hKS := Lib.hid hKK
    clear hKK
    go_simp
    refine (h6 _ hHeld).mono ?_
    rintro e w6 ⟨rfl, hx⟩
    go_wp2_with fail
    refine hKS.out.out _ _ (hHeld.below hx) (fun hHeld => ?_)
    clear hKS KK hx
    try simp only [Act.put, List.setIfInBounds_toArray, List.set_cons_zero, List.set_cons_succ]
    refine wpAnyH_ready (rs := [7]) (by kernel_rfl) (by simp) ?_
    refine AllReadyH.cons (o := { dst := some 21, op := Op.call { callee := Callee.value (Operand.func 5), args := #[Operand.tmp 14, Operand.const (Value.string { data := #[108, 122] }), Operand.tmp 20], argTypes := #[23, 9, 9] }, type := _, pos := _, after := _, guard := _ }) rfl (fun KK hKK => ?_) AllReadyH.nil
    have hKS := Lib.hid hKK
    clear hKK
    go_simp
    refine (h5 _ hHeld).mono ?_
    rintro e w7 ⟨rfl, hx⟩
    go_wp2_with fail
    refine hKS.out.out _ _ (hHeld.below hx) (fun hHeld => ?_)
    clear hKS KK hx
    try simp only [Act.put, List.setIfInBounds_toArray, List.set_cons_zero, List.set_cons_succ]
    refine wpAnyH_take (i := 8) (oi := { dst := some 13, op := Op.move (Operand.tmp 21), type := _, pos := _, after := _, guard := _ }) (v := ?_) rfl (by kernel_rfl) (by kernel_rfl) (by kernel_rfl) (fun _ _ _ h => h) (Or.inl ⟨by rfl, ?_⟩) hHeld ?_
    rotate_left
    · intro wq hSw
      go_simp
      rfl
    try simp only [Act.put, List.setIfInBounds_toArray, List.set_cons_zero, List.set_cons_succ]
    refine wpAnyH_take (i := 9) (oi := { dst := some 22, op := Op.extract (Operand.tmp 13) 0, type := _, pos := _, after := _, guard := _ }) (v := ?_) rfl (by kernel_rfl) (by kernel_rfl) (by kernel_rfl) (fun _ _ _ h => h) (Or.inl ⟨by rfl, ?_⟩) hHeld ?_
    rotate_left
    · intro wq hSw
      go_simp
      rfl
    try simp only [Act.put, List.setIfInBounds_toArray, List.set_cons_zero, List.set_cons_succ]
    refine wpAnyH_take (i := 10) (oi := { dst := some 23, op := Op.extract (Operand.tmp 13) 1, type := _, pos := _, after := _, guard := _ }) (v := ?_) rfl (by kernel_rfl) (by kernel_rfl) (by kernel_rfl) (fun _ _ _ h => h) (Or.inl ⟨by rfl, ?_⟩) hHeld ?_
    rotate_left
    · intro wq hSw
      go_simp
      rfl
    try simp only [Act.put, List.setIfInBounds_toArray, List.set_cons_zero, List.set_cons_succ]
    refine wpAnyH_take (i := 11) (oi := { dst := some 5, op := Op.assign (Operand.tmp 22), type := _, pos := _, after := _, guard := _ }) (v := ?_) rfl (by kernel_rfl) (by kernel_rfl) (by kernel_rfl) (fun _ _ _ h => h) (Or.inl ⟨by rfl, ?_⟩) hHeld ?_
    rotate_left
    · intro wq hSw
      go_simp
      rfl
    try simp only [Act.put, List.setIfInBounds_toArray, List.set_cons_zero, List.set_cons_succ]
    refine wpAnyH_take (i := 12) (oi := { dst := some 6, op := Op.assign (Operand.tmp 23), type := _, pos := _, after := _, guard := _ }) (v := ?_) rfl (by kernel_rfl) (by kernel_rfl) (by kernel_rfl) (fun _ _ _ h => h) (Or.inl ⟨by rfl, ?_⟩) hHeld ?_
    rotate_left
    · intro wq hSw
      go_simp
      rfl
    try simp only [Act.put, List.setIfInBounds_toArray, List.set_cons_zero, List.set_cons_succ]
    refine wpAnyH_done (by kernel_rfl) ?_ _
    go_wp2_with fail
    refine (h9 _).mono ?_
    rintro e wa ⟨rfl, hx⟩
    replace hHeld := hHeld.below hx
    go_wp2_with fail
    refine (Z.alive_any _).mono ?_
    rintro e wb ⟨rfl, hx⟩
    replace hHeld := hHeld.below hx
    go_wp2_with fail
    go_ret
    exact ⟨rfl, hHeld.b⟩

set_option maxRecDepth 100000 in
theorem lifted (os : Os) (started : os.Started) (H : Type) (enc : TypeId × Value → H) :
    ReturnsInHanded {} Tryd.checked os 3 .any (fun w args => (Rows.lzSealedSpec.pre enc Tryd.prog Tryd.f3 [] false w args ∧ laidMetH Tryd.prog lay2 w) ∧ sizedMet enc Tryd.prog Tryd.f3 (OpenSpec.ofChange Rows.lzSealedSpec) false w args)
      (Rows.lzSealedSpec.post enc Tryd.prog Tryd.f3 false true false false) := by
  refine returnsInHanded_of_change_and (C := Tryd.checked) (X := fun w _ => laidMetH Tryd.prog lay2 w) (fun _ _ _ hh h => h.of_heap hh) own started (by kernel_rfl) Tryd.func3
    (ChangeSpec.witness_shaped (enc := enc) (C := Tryd.checked) (os := os) (X := fun w _ => laidMetH Tryd.prog lay2 w) false (World.doorLaid Tryd.prog 400 os) #[.agg (Array.replicate 32 (.int .u8 0)), .string ByteArray.empty] 8 rfl (World.shaped_of_RefB (by kernel_rfl) (by kernel_rfl)) (by kernel_rfl) (by kernel_rfl) (by kernel_rfl) (door_met os _)) ?_
  intro W base args ds gs before hval0 hW _ _ hL _
  have hval : ∀ (j : Nat) t v, Tryd.f3.params[j]? = some t → args[j]? = some v → Value.okWide Tryd.prog W .any base t v := hval0
  have hW' := hW
  obtain ⟨p, q, hA0, hV, rfl, hfz, hnd⟩ := hW
  have hA : DataW.TrodAll enc Tryd.prog W 0 (fun _ => true) true Tryd.f3.params.toList args.toList ds p := hA0
  rw [Tryd.params3] at hA hval
  obtain ⟨v0, vs0, d0, ds0, p0, q0, hargs, rfl, rfl, h0, r0⟩ := trodAll_cons hA
  obtain ⟨v1, vs1, d1, ds1, p1, q1, rfl, rfl, rfl, h1, r1⟩ := trodAll_cons r0
  obtain ⟨rfl, rfl, rfl⟩ := trodAll_nil r1
  obtain rfl : args = #[v0, v1] := by cases args; simp_all
  obtain ⟨rfl, rfl⟩ := trodVars_none hV
  obtain ⟨K0, rfl, b0⟩ := okKey (hval 0 23 v0 rfl rfl)
  have k0 := h0
  have lt0 : ∀ x ∈ p0, x.block < W.heap.size := by obtain ⟨m, hm⟩ := k0; exact DataW.trod_lt m _ _ _ hm
  obtain ⟨a1, rfl, rfl, rfl, w1⟩ := open_string Tryd.underlying9 (hval 1 9 v1 rfl rfl) h1
  have hT := of_laid hL
  clear hA0 hval0
  refine (walk K0 a1 b0 (by unfold maxLen at w1; exact w1) W hT).mono fun e W' ⟨he, bel⟩ => ?_
  subst he
  exact ⟨_, rfl, _, _, _, [], _, [], hW', trodAll_mk1 (shut_bool Tryd.underlying4 _), (trodAll_cons_mk (Below.trod laidOut (by kernel_rfl) (of_decide_eq_true (by kernel_rfl)) k0 bel lt0) (trodAll_cons_mk (shut_string Tryd.underlying9 w1) trodAll_mk0)), rfl, bel.frame _, fun h => by cases h⟩

theorem bare : Rows.LzSealedSaid :=
  OpenClaim.holds_of_wide 3 Tryd.f3 rfl rfl rfl rfl rfl rfl rfl ⟨rfl, rfl, rfl, rfl, rfl⟩ rfl rfl rfl rfl rfl (by kernel_rfl) Tryd.func3 (by kernel_rfl)
    (of_decide_eq_true (by kernel_rfl)) (by unfold Func.isWrapper; first | (rw [if_pos (by decide +kernel)]; kernel_rfl) | (rw [if_neg (by decide +kernel)]; exact ⟨rfl, rfl⟩))
    (fun os started H enc _ => lifted os started H enc)

/-- the statement -/
theorem proved : Rows.LzSealedCardSaid :=
  Claim7.holds_tied_plain_at .later [] [.data, .data] true Rows.lzSealedCard.stood.harness false
    bare (fun _ h => by cases h) (by kernel_rfl) (fun _ h => by cases h) lzSealed_row_tie rfl ⟨rfl, rfl⟩ (by kernel_rfl) rfl
    (fun f fn hf hfn => by
      obtain rfl : f = 3 := Option.some.inj ((show Tryd.prog.funcNamed "hibernacle/hibernaclelaw08.LzSealed" = some 3 by kernel_rfl).symm.trans hf) |>.symm
      obtain rfl : fn = Tryd.f3 := (Option.some.inj (Tryd.func3.symm.trans hfn)).symm
      exact ⟨by kernel_rfl, fun j t ht => by
        rw [Tryd.params3] at ht
        have hm : t ∈ [23, 9] := by simpa using Array.mem_of_getElem? ht
        have hall : ([23, 9].all fun u => !Tryd.prog.wantsStandIn u) = true := by kernel_rfl
        exact (show Tryd.prog.wantsStandIn t = false by simpa using List.all_eq_true.1 hall t hm)⟩)
    (by kernel_rfl)
end Go.Proofs.YtoggibooinhomaaDoor.lzSealed
