/-
  For every key, nonce, head and data: SealTags answers true (a box's tag is the keyed digest of the row of the head and what stands ahead), and the arguments read behind the call as they read before; the two package tables are laid by the program's own text.
-/
import Derived.Test.YtdmlfibnhcdhkaaDoorRows
import Derived.Test.YtdmlfibnhcdhkaaDoorCards
import Derived.Test.YtdmlfibnhcdhkaaDoorTie
import Derived.Test.YtdmlfibnhcdhkaaDoorLw
import Derived.WalkKit
import Derived.ProofKit
import Derived.LaidMore
import Derived.OpenShut
import Derived.ShutString
import Derived.Stop.Joined
import Derived.OrdersHeld
namespace Go.Proofs.YtdmlfibnhcdhkaaDoor.sealTags
open Go.ChangeShapes Go.WideShapes Go.ChangeAt Go.RowKit
open Go.ChangeMaps (open_string shut_string)
set_option linter.unusedVariables false

theorem own : ownKnob Tryd.prog.godebug = none := by kernel_rfl
def laid2 {H : Type} : List (String × DataW H) := [("hibernacle/hash.eight", Rows.laid_hibernacle_hash_eight), ("hibernacle/hash.rows", Rows.laid_hibernacle_hash_rows)]
theorem door_met (os : Os) (args : Array Value) : laidMetH Tryd.prog laid2 ((World.doorLaid Tryd.prog 400 os).forCall (fun _ _ => 0) ⟨#[], args, []⟩).memory :=
  laidMetH_of_parts3 (fuel := 8) (laidMet_of_run' 8 (by kernel_rfl) (by kernel_rfl)) (by kernel_rfl) (by kernel_rfl)
set_option maxRecDepth 100000 in
set_option maxHeartbeats 4000000 in
theorem walk (K N : List Nat) (h s : ByteArray) (hK : Bl.By K) (lK : K.length = 32) (hN : Bl.By N) (lN : N.length = 12) (wh : h.size ≤ maxLen) (ws : s.size ≤ maxLen) (w : World) (hT : Tab w) :
    Calls Tryd.prog 8 #[.agg (vs .u8 K), .agg (vs .u8 N), .string h, .string s] w fun e w' => e = .returned (.bool true) ∧ Below w.heap.size w w' := by
  obtain ⟨V, hV⟩ : ∃ V, V = (w.alloc (Obj.cells (vs .u8 K) 23)).alloc (Obj.cells (vs .u8 N) 24) := ⟨_, rfl⟩
  have st0 := Tn.new w K N
  have st := st0
  rw [← hV] at st
  have ha := fun wr (o : Tn w wr K N) => awake_any wr (hT.below o.b)
  have HV := Lib.hid hV
  clear hV
  by_cases hbig : 300 < h.size ∨ 300 < s.size
  · have dd : 300 < (h.size : Int) ∨ ((300 < (h.size : Int)) = False ∧ 300 < (s.size : Int)) := by
      by_cases h1 : 300 < h.size
      · exact .inl (by omega)
      · exact .inr ⟨by simp; omega, by omega⟩
    clear hbig
    rcases dd with d0 | ⟨d0, d1⟩ <;>
    · go_enter Tryd.func8, Tryd.ntmps8
      go_wp2_with fail
      change Calls _ _ _ ((w.alloc (Obj.cells (vs .u8 K) 23)).alloc (Obj.cells (vs .u8 N) 24)) _
      rw [← HV.out]
      refine (ha _ st).mono ?_
      rintro e w1 ⟨rfl, hx⟩
      replace st := st.below hx
      go_wp2_with fail
      go_ret
      exact ⟨rfl, st.b⟩
  · have d0 : ¬ 300 < (h.size : Int) := by omega
    have d1 : ¬ 300 < (s.size : Int) := by omega
    have zb : (boxD K N h s).size = s.size + 44 := boxD_size lN
    have zB : (bodyD K N s).size = s.size + 12 := bodyD_size lN
    have h11 := fun wr (o : Tn w wr K N) => seal_any K N h s wr hK hN lK lN (hT.below o.b) (by omega) (by omega)
    obtain ⟨T, hTe⟩ : ∃ T, T = Bl.keyed K wT := ⟨_, rfl⟩
    obtain ⟨R, hR⟩ : ∃ R, R = rowN h (bodyD K N s) := ⟨_, rfl⟩
    obtain ⟨D, hD⟩ : ∃ D, D = Bl.keyed T (tn R) := ⟨_, rfl⟩
    have eA : (boxD K N h s).extract 0 ((boxD K N h s).size - 32) = bodyD K N s := left_cut _ _ _ (by omega)
    have eD : bs (tagD K h (bodyD K N s)) = bs D := by rw [hD, hR, hTe]; rfl
    have eT : (boxD K N h s).extract ((boxD K N h s).size - 32) (boxD K N h s).size = bs D := by rw [← eD]; exact right_cut _ _ _ _ (by omega) rfl
    have r1 := rowN_size h (bodyD K N s) (by omega)
    rw [← hR] at r1
    have zR : R.size ≤ 1000000 := by omega
    have lT : T.length = 32 := by rw [hTe]; exact keyed_len _ _
    have bT : Bl.By T := by rw [hTe]; exact keyed_by _ _
    have lD : D.length = 32 := by rw [hD]; exact keyed_len _ _
    have h17 : ∀ wr g, Tn w wr K N → Pt wr g [⟨#[116, 97, 103]⟩] → Calls Tryd.prog 17 #[.agg (vs .u8 K), .slice (some ⟨g, 0, none⟩) 1 1] wr fun e w' => e = .returned (.agg (vs .u8 T)) ∧ Below wr.heap.size wr w' := fun wr g o p => by
      have := keyed_one hK lK (hT.below o.b) p sz_T
      rw [tn_T, ← hTe] at this; exact this
    have h18 : ∀ wr g, Pt wr g [h, bodyD K N s] → Calls Tryd.prog 18 #[.slice (some ⟨g, 0, none⟩) 2 2] wr fun e w' => e = .returned (.string R) ∧ Below wr.heap.size wr w' := fun wr g p => by
      rw [hR]; exact row_two g h _ wr (p.c 0 h rfl) (p.c 1 _ rfl) (by omega)
    have h17b : ∀ wr g, Tn w wr K N → Pt wr g [R] → Calls Tryd.prog 17 #[.agg (vs .u8 T), .slice (some ⟨g, 0, none⟩) 1 1] wr fun e w' => e = .returned (.agg (vs .u8 D)) ∧ Below wr.heap.size wr w' := fun wr g o p => by
      rw [hD]; exact keyed_one bT lT (hT.below o.b) p zR
    have h10 := fun wr g (o : Tn w wr K N ∧ Own wr g 37 (vs .u8 D)) => ha wr o.1
    have d2 : ¬ ((boxD K N h s).size : Int) < 44 := by omega
    have zs : (boxD K N h s).size ≤ 10000 := by omega
    generalize boxD K N h s = b at *
    generalize bodyD K N s = B at *
    clear hbig hT hK hN zB r1 zR bT hTe hR hD eD ha zb
    go_enter Tryd.func8, Tryd.ntmps8
    go_wp2_with (first | (refine ld t28 rfl rfl rfl st0.k lK ?_) | (refine ld tN rfl rfl rfl st0.n lN ?_))
    change Calls _ _ _ ((w.alloc (Obj.cells (vs .u8 K) 23)).alloc (Obj.cells (vs .u8 N) 24)) _
    rw [← HV.out]
    clear HV st0
    refine (h11 _ st).mono ?_
    rintro e w1 ⟨rfl, hx⟩
    replace st := st.below hx
    clear hx h11
    go_wp2_with (first | (refine ld t28 rfl rfl rfl st.k lK ?_) | (refine ld tN rfl rfl rfl st.n lN ?_))
    have hx := grow w1 (Obj.cells #[.string ⟨#[116, 97, 103]⟩] 9)
    have p := Pt.new1 w1 ⟨#[116, 97, 103]⟩
    replace st := st.below hx
    generalize w1.alloc (Obj.cells #[.string ⟨#[116, 97, 103]⟩] 9) = V1 at *
    clear hx
    generalize w1.heap.size = g1 at *
    refine (h17 _ _ st p).mono ?_
    rintro e w2 ⟨rfl, hx⟩
    replace st := st.below hx
    clear hx p h17
    go_wp2_with fail
    have hx := grow w2 (Obj.cells #[.string h, .string B] 9)
    have p := Pt.new2 w2 h B
    replace st := st.below hx
    generalize w2.alloc (Obj.cells #[.string h, .string B] 9) = V2 at *
    clear hx
    generalize w2.heap.size = g2 at *
    refine (h18 _ _ p).mono ?_
    rintro e w3 ⟨rfl, hx⟩
    replace st := st.below hx
    clear hx p h18
    go_wp2_with fail
    have hx := grow w3 (Obj.cells #[.string R] 9)
    have p := Pt.new1 w3 R
    replace st := st.below hx
    generalize w3.alloc (Obj.cells #[.string R] 9) = V3 at *
    clear hx
    generalize w3.heap.size = g3 at *
    refine (h17b _ _ st p).mono ?_
    rintro e w4 ⟨rfl, hx⟩
    replace st := st.below hx
    clear hx p h17b
    have sd : Tn w (w4.alloc (Obj.cells (vs .u8 D) 37)) K N ∧ Own (w4.alloc (Obj.cells (vs .u8 D) 37)) w4.heap.size 37 (vs .u8 D) := ⟨st.below (grow _ _), Own.new _ _ _⟩
    clear st
    go_wp2_with (refine sto_new (l := D) t24 rfl rfl rfl rfl rfl rfl lD ?_)
    generalize w4.alloc (Obj.cells (vs .u8 D) 37) = V4 at *
    generalize w4.heap.size = g4 at *
    have d4 : (32 : Int) ≤ (b.size : Int) := by omega
    have d5 : (b.size : Int) - 32 ≤ (b.size : Int) := by omega
    have n1 : ((b.size : Int) - 32).toNat = b.size - 32 := by omega
    have iw : IntKind.i64.wrap ((b.size : Int) - 32) = (b.size : Int) - 32 := IntWalk.i64_in _ (by omega)
    refine wp_region_held_drew (S := fun w' => Tn w w' K N ∧ Own w' g4 37 (vs .u8 D)) (by kernel_rfl) ⟨sd.1.drew, sd.2.drew⟩ (fun hHeld => ?_)
    clear sd
    generalize V4.drew = V5 at *
    refine wpAnyH_take (i := 0) (oi := { dst := some 43, op := Op.move (Operand.tmp 9), type := _, pos := _, after := _, guard := _ }) (v := ?_) rfl (by kernel_rfl) (by kernel_rfl) (by kernel_rfl) (fun _ _ _ h => h) (Or.inl ⟨by rfl, ?_⟩) hHeld ?_
    rotate_left
    · intro wq hSw
      go_simp
      rfl
    try simp only [Act.put, List.setIfInBounds_toArray, List.set_cons_zero, List.set_cons_succ]
    refine wpAnyH_take (i := 1) (oi := { dst := some 44, op := Op.move (Operand.tmp 9), type := _, pos := _, after := _, guard := _ }) (v := ?_) rfl (by kernel_rfl) (by kernel_rfl) (by kernel_rfl) (fun _ _ _ h => h) (Or.inl ⟨by rfl, ?_⟩) hHeld ?_
    rotate_left
    · intro wq hSw
      go_simp
      rfl
    try simp only [Act.put, List.setIfInBounds_toArray, List.set_cons_zero, List.set_cons_succ]
    refine wpAnyH_take (i := 2) (oi := { dst := some 45, op := Op.call { callee := Callee.builtin Builtin.len, args := #[Operand.tmp 44], argTypes := #[9] }, type := _, pos := _, after := _, guard := _ }) (v := ?_) rfl (by kernel_rfl) (by kernel_rfl) (by kernel_rfl) (fun _ _ _ h => h) (Or.inl ⟨by rfl, ?_⟩) hHeld ?_
    rotate_left
    · intro wq hSw
      go_simp
      rfl
    try simp only [Act.put, List.setIfInBounds_toArray, List.set_cons_zero, List.set_cons_succ]
    refine wpAnyH_take (i := 3) (oi := { dst := some 46, op := Op.binOp BinOp.sub 3 (Operand.tmp 45) (Operand.const (Value.int IntKind.i64 32)) 3, type := _, pos := _, after := _, guard := _ }) (v := ?_) rfl (by kernel_rfl) (by kernel_rfl) (by kernel_rfl) (fun _ _ _ h => h) (Or.inl ⟨by rfl, ?_⟩) hHeld ?_
    rotate_left
    · intro wq hSw
      go_simp
      rfl
    try simp only [Act.put, List.setIfInBounds_toArray, List.set_cons_zero, List.set_cons_succ]
    refine wpAnyH_take (i := 4) (oi := { dst := some 47, op := Op.slice 9 (Operand.tmp 43) (some (Operand.tmp 46)) none none, type := _, pos := _, after := _, guard := _ }) (v := ?_) rfl (by kernel_rfl) (by kernel_rfl) (by kernel_rfl) (fun _ _ _ h => h) (Or.inl ⟨by rfl, ?_⟩) hHeld ?_
    rotate_left
    · intro wq hSw
      go_simp
      rfl
    try simp only [Act.put, List.setIfInBounds_toArray, List.set_cons_zero, List.set_cons_succ]
    refine wpAnyH_take (i := 5) (oi := { dst := some 48, op := Op.slice 37 (Operand.tmp 11) none none none, type := _, pos := _, after := _, guard := _ }) (v := ?_) rfl (by kernel_rfl) (by kernel_rfl) (by kernel_rfl) (fun _ _ _ h => h) (Or.inl ⟨by rfl, ?_⟩) hHeld ?_
    rotate_left
    · intro wq hSw
      go_simp
      rfl
    try simp only [Act.put, List.setIfInBounds_toArray, List.set_cons_zero, List.set_cons_succ]
    refine wpAnyH_take (i := 6) (oi := { dst := some 49, op := Op.convert 33 9 (Operand.tmp 48), type := _, pos := _, after := _, guard := _ }) rfl (by kernel_rfl) (by kernel_rfl) (by kernel_rfl) (fun _ _ _ h => h) (yconv (by rfl) _ rfl _ 32 rfl (fun w1 h => h.2) lD) hHeld ?_
    try simp only [Act.put, List.setIfInBounds_toArray, List.set_cons_zero, List.set_cons_succ]
    refine wpAnyH_take (i := 7) (oi := { dst := some 50, op := Op.binOp BinOp.eql 9 (Operand.tmp 47) (Operand.tmp 49) 9, type := _, pos := _, after := _, guard := _ }) (v := ?_) rfl (by kernel_rfl) (by kernel_rfl) (by kernel_rfl) (fun _ _ _ h => h) (Or.inl ⟨by rfl, ?_⟩) hHeld ?_
    rotate_left
    · intro wq hSw
      go_simp
      rfl
    try simp only [Act.put, List.setIfInBounds_toArray, List.set_cons_zero, List.set_cons_succ]
    refine wpAnyH_take (i := 8) (oi := { dst := some 51, op := Op.move (Operand.tmp 50), type := _, pos := _, after := _, guard := _ }) (v := ?_) rfl (by kernel_rfl) (by kernel_rfl) (by kernel_rfl) (fun _ _ _ h => h) (Or.inl ⟨by rfl, ?_⟩) hHeld ?_
    rotate_left
    · intro wq hSw
      go_simp
      rfl
    try simp only [Act.put, List.setIfInBounds_toArray, List.set_cons_zero, List.set_cons_succ]
    refine wpAnyH_ready (rs := [9]) (by kernel_rfl) (by simp) ?_
    refine AllReadyH.cons (o := { dst := some 52, op := Op.call { callee := Callee.value (Operand.func 10), args := #[], argTypes := #[] }, type := _, pos := _, after := _, guard := _ }) rfl (fun KK hKK => ?_) AllReadyH.nil
    have hKS := Lib.hid hKK
    clear hKK
    go_simp
    refine (h10 _ _ hHeld).mono ?_
    rintro e w9 ⟨rfl, hx⟩
    go_wp2_with fail
    refine hKS.out.out _ _ ⟨hHeld.1.below hx, Below.own hx hHeld.2 hHeld.2.lt⟩ (fun hHeld => ?_)
    clear hKS KK hx
    try simp only [Act.put, List.setIfInBounds_toArray, List.set_cons_zero, List.set_cons_succ]
    refine wpAnyH_take (i := 10) (oi := { dst := some 53, op := Op.pick (Operand.tmp 51) (Operand.tmp 52) (Operand.const (Value.bool false)), type := _, pos := _, after := _, guard := _ }) (v := ?_) rfl (by kernel_rfl) (by kernel_rfl) (by kernel_rfl) (fun _ _ _ h => h) (Or.inl ⟨by rfl, ?_⟩) hHeld ?_
    rotate_left
    · intro wq hSw
      go_simp
      rfl
    try simp only [Act.put, List.setIfInBounds_toArray, List.set_cons_zero, List.set_cons_succ]
    refine wpAnyH_take (i := 11) (oi := { dst := some 8, op := Op.assign (Operand.tmp 53), type := _, pos := _, after := _, guard := _ }) (v := ?_) rfl (by kernel_rfl) (by kernel_rfl) (by kernel_rfl) (fun _ _ _ h => h) (Or.inl ⟨by rfl, ?_⟩) hHeld ?_
    rotate_left
    · intro wq hSw
      go_simp
      rfl
    try simp only [Act.put, List.setIfInBounds_toArray, List.set_cons_zero, List.set_cons_succ]
    refine wpAnyH_done (by kernel_rfl) ?_ _
    go_wp2_with fail
    go_ret
    exact ⟨rfl, hHeld.1.b⟩

set_option maxRecDepth 100000 in
theorem lifted (os : Os) (started : os.Started) (H : Type) (enc : TypeId × Value → H) :
    ReturnsInHanded {} Tryd.checked os 8 .any (fun w args => (Rows.sealTagsSpec.pre enc Tryd.prog Tryd.f8 [] false w args ∧ laidMetH Tryd.prog laid2 w) ∧ sizedMet enc Tryd.prog Tryd.f8 (OpenSpec.ofChange Rows.sealTagsSpec) false w args)
      (Rows.sealTagsSpec.post enc Tryd.prog Tryd.f8 false true false false) := by
  refine returnsInHanded_of_change_and (C := Tryd.checked) (X := fun w _ => laidMetH Tryd.prog laid2 w) (fun _ _ _ hh h => h.of_heap hh) own started (by kernel_rfl) Tryd.func8
    (ChangeSpec.witness_shaped (enc := enc) (C := Tryd.checked) (os := os) (X := fun w _ => laidMetH Tryd.prog laid2 w) false (World.doorLaid Tryd.prog 400 os) #[.agg (Array.replicate 32 (.int .u8 0)), .agg (Array.replicate 12 (.int .u8 0)), .string ByteArray.empty, .string ByteArray.empty] 8 rfl (World.shaped_of_RefB (by kernel_rfl) (by kernel_rfl)) (by kernel_rfl) (by kernel_rfl) (by kernel_rfl) (door_met os _)) ?_
  intro W base args ds gs before hval0 hW _ _ hL _
  have hval : ∀ (j : Nat) t v, Tryd.f8.params[j]? = some t → args[j]? = some v → Value.okWide Tryd.prog W .any base t v := hval0
  have hW' := hW
  obtain ⟨p, q, hA0, hV, rfl, hfz, hnd⟩ := hW
  have hA : DataW.TrodAll enc Tryd.prog W 0 (fun _ => true) true Tryd.f8.params.toList args.toList ds p := hA0
  rw [Tryd.params8] at hA hval
  obtain ⟨v0, vs0, d0, ds0, p0, q0, hargs, rfl, rfl, h0, r0⟩ := trodAll_cons hA
  obtain ⟨v1, vs1, d1, ds1, p1, q1, rfl, rfl, rfl, h1, r1⟩ := trodAll_cons r0
  obtain ⟨v2, vs2, d2, ds2, p2, q2, rfl, rfl, rfl, h2, r2⟩ := trodAll_cons r1
  obtain ⟨v3, vs3, d3, ds3, p3, q3, rfl, rfl, rfl, h3, r3⟩ := trodAll_cons r2
  obtain ⟨rfl, rfl, rfl⟩ := trodAll_nil r3
  obtain rfl : args = #[v0, v1, v2, v3] := by cases args; simp_all
  obtain ⟨rfl, rfl⟩ := trodVars_none hV
  obtain ⟨K0, rfl, l0, b0⟩ := okKey (hval 0 23 v0 rfl rfl)
  have k0 := h0
  have lt0 : ∀ x ∈ p0, x.block < W.heap.size := by obtain ⟨m, hm⟩ := k0; exact DataW.trod_lt m _ _ _ hm
  obtain ⟨K1, rfl, l1, b1⟩ := okNon (hval 1 24 v1 rfl rfl)
  have k1 := h1
  have lt1 : ∀ x ∈ p1, x.block < W.heap.size := by obtain ⟨m, hm⟩ := k1; exact DataW.trod_lt m _ _ _ hm
  obtain ⟨a2, rfl, rfl, rfl, w2⟩ := open_string Tryd.underlying9 (hval 2 9 v2 rfl rfl) h2
  obtain ⟨a3, rfl, rfl, rfl, w3⟩ := open_string Tryd.underlying9 (hval 3 9 v3 rfl rfl) h3
  have hT := of_laid hL
  clear hA0 hval0
  refine (walk K0 K1 a2 a3 b0 l0 b1 l1 w2 w3 W hT).mono fun e W' ⟨he, bel⟩ => ?_
  subst he
  exact ⟨_, rfl, _, _, _, [], _, [], hW', trodAll_mk1 (shut_bool Tryd.underlying4 _), (trodAll_cons_mk (Below.trod laidOut (by kernel_rfl) (of_decide_eq_true (by kernel_rfl)) k0 bel lt0) (trodAll_cons_mk (Below.trod laidOut (by kernel_rfl) (of_decide_eq_true (by kernel_rfl)) k1 bel lt1) (trodAll_cons_mk (shut_string Tryd.underlying9 w2) (trodAll_cons_mk (shut_string Tryd.underlying9 w3) trodAll_mk0)))), rfl, bel.frame _, fun h => by cases h⟩

theorem bare : Rows.SealTagsSaid :=
  OpenClaim.holds_of_wide 8 Tryd.f8 rfl rfl rfl rfl rfl rfl rfl ⟨rfl, rfl, rfl, rfl, rfl⟩ rfl rfl rfl rfl rfl (by kernel_rfl) Tryd.func8 (by kernel_rfl)
    (of_decide_eq_true (by kernel_rfl)) (by unfold Func.isWrapper; first | (rw [if_pos (by decide +kernel)]; kernel_rfl) | (rw [if_neg (by decide +kernel)]; exact ⟨rfl, rfl⟩))
    (fun os started H enc _ => lifted os started H enc)

/-- the statement -/
theorem proved : Rows.SealTagsCardSaid :=
  Claim7.holds_tied_plain_at .later [] [.data, .data] true Rows.sealTagsCard.stood.harness false
    bare (fun _ h => by cases h) (by kernel_rfl) (fun _ h => by cases h) sealTags_row_tie rfl ⟨rfl, rfl⟩ (by kernel_rfl) rfl
    (fun f fn hf hfn => by
      obtain rfl : f = 8 := Option.some.inj ((show Tryd.prog.funcNamed "hibernacle/hibernaclelaw04.SealTags" = some 8 by kernel_rfl).symm.trans hf) |>.symm
      obtain rfl : fn = Tryd.f8 := (Option.some.inj (Tryd.func8.symm.trans hfn)).symm
      exact ⟨by kernel_rfl, fun j t ht => by
        rw [Tryd.params8] at ht
        have hm : t ∈ [23, 24, 9, 9] := by simpa using Array.mem_of_getElem? ht
        have hall : ([23, 24, 9, 9].all fun u => !Tryd.prog.wantsStandIn u) = true := by kernel_rfl
        exact (show Tryd.prog.wantsStandIn t = false by simpa using List.all_eq_true.1 hall t hm)⟩)
    (by kernel_rfl)
end Go.Proofs.YtdmlfibnhcdhkaaDoor.sealTags
