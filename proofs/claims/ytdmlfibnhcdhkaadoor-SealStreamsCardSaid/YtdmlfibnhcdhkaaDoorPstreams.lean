/-
  For every key, nonce and two texts: SealStreams answers true (two boxes under one nonce, made one, are their data made one), and the arguments read behind the call as they read before; the two package tables are laid by the program's own text.
-/
import Derived.Test.YtdmlfibnhcdhkaaDoorRows
import Derived.Test.YtdmlfibnhcdhkaaDoorCards
import Derived.Test.YtdmlfibnhcdhkaaDoorTie
import Derived.Test.YtdmlfibnhcdhkaaDoorLw
import Derived.WalkKit
import Derived.ProofKit
import Derived.LaidMore
import Derived.OpenShut
import Derived.ShutString
import Derived.Stop.Joined
import Derived.OrdersHeld
namespace Go.Proofs.YtdmlfibnhcdhkaaDoor.sealStreams
open Go.ChangeShapes Go.WideShapes Go.ChangeAt Go.RowKit
open Go.ChangeMaps (open_string shut_string)
set_option linter.unusedVariables false

theorem own : ownKnob Tryd.prog.godebug = none := by kernel_rfl
def laid2 {H : Type} : List (String × DataW H) := [("hibernacle/hash.eight", Rows.laid_hibernacle_hash_eight), ("hibernacle/hash.rows", Rows.laid_hibernacle_hash_rows)]
theorem door_met (os : Os) (args : Array Value) : laidMetH Tryd.prog laid2 ((World.doorLaid Tryd.prog 400 os).forCall (fun _ _ => 0) ⟨#[], args, []⟩).memory :=
  laidMetH_of_parts3 (fuel := 8) (laidMet_of_run' 8 (by kernel_rfl) (by kernel_rfl)) (by kernel_rfl) (by kernel_rfl)
theorem byte_box {K N : List Nat} {h d : ByteArray} (bN : Bl.By N) (lN : N.length = 12) {i : Nat} (hi : i < d.size) (h2 : 12 + i < (boxD K N h d).size) : ((boxD K N h d)[12 + i]).toNat = Bl.nth (tn d) i ^^^ Ch.nth (Ch.block (Bl.keyed K wC) N (Ci.no 1 i)) (i % 64) := by
  rw [tn_get, tn_box bN]
  have lx : (tn (strm K N d)).length = d.size := by rw [tn_length, strm_size]
  have e : Bl.nth (N ++ (tn (strm K N d) ++ tagD K h (bodyD K N d))) (12 + i) = Bl.nth (tn (strm K N d)) i := by
    unfold Bl.nth
    rw [List.getD_eq_getElem?_getD, List.getD_eq_getElem?_getD, List.getElem?_append_right (by omega), List.getElem?_append_left (by omega)]
    congr 2; omega
  rw [e, strm, tn_bs (Ci.xs_by _ _ _ (tn_by d))]
  exact Ci.xs_nth _ _ _ _ (by rw [tn_length]; exact hi)
theorem xor_mid (a b k : Nat) : (a ^^^ k) ^^^ (b ^^^ k) = a ^^^ b := by
  rw [Nat.xor_comm b k, Nat.xor_assoc, ← Nat.xor_assoc k k b, Nat.xor_self, Nat.zero_xor]
set_option maxRecDepth 100000 in
set_option maxHeartbeats 4000000 in
theorem walk (K N : List Nat) (a b : ByteArray) (hK : Bl.By K) (lK : K.length = 32) (hN : Bl.By N) (lN : N.length = 12) (wa : a.size ≤ maxLen) (wb : b.size ≤ maxLen) (w : World) (hT : Tab w) :
    Calls Tryd.prog 9 #[.agg (vs .u8 K), .agg (vs .u8 N), .string a, .string b] w fun e w' => e = .returned (.bool true) ∧ Below w.heap.size w w' := by
  obtain ⟨V, hV⟩ : ∃ V, V = (w.alloc (Obj.cells (vs .u8 K) 23)).alloc (Obj.cells (vs .u8 N) 24) := ⟨_, rfl⟩
  have st := Tn.new w K N
  rw [← hV] at st
  have ha := fun wr (o : Tn w wr K N) => awake_any wr (hT.below o.b)
  have HV := Lib.hid hV
  clear hV
  by_cases hbig : 300 < a.size ∨ 300 < b.size
  · have dd : 300 < (a.size : Int) ∨ ((300 < (a.size : Int)) = False ∧ 300 < (b.size : Int)) := by
      by_cases h1 : 300 < a.size
      · exact .inl (by omega)
      · exact .inr ⟨by simp; omega, by omega⟩
    clear hbig
    rcases dd with d0 | ⟨d0, d1⟩ <;>
    · go_enter Tryd.func9, Tryd.ntmps9
      go_wp2_with fail
      change Calls _ _ _ ((w.alloc (Obj.cells (vs .u8 K) 23)).alloc (Obj.cells (vs .u8 N) 24)) _
      rw [← HV.out]
      refine (ha _ st).mono ?_
      rintro e w1 ⟨rfl, hx⟩
      replace st := st.below hx
      go_wp2_with fail
      go_ret
      exact ⟨rfl, st.b⟩
  · have d0 : ¬ 300 < (a.size : Int) := by omega
    have d1 : ¬ 300 < (b.size : Int) := by omega
    have zx : (boxD K N ⟨#[111, 110, 101]⟩ a).size = a.size + 44 := boxD_size lN
    have zy : (boxD K N ⟨#[116, 119, 111]⟩ b).size = b.size + 44 := boxD_size lN
    have hx1 := fun wr (o : Tn w wr K N) => seal_any K N ⟨#[111, 110, 101]⟩ a wr hK hN lK lN (hT.below o.b) (by show (3 : Nat) ≤ 10000; omega) (by omega)
    have hy1 := fun wr (o : Tn w wr K N) => seal_any K N ⟨#[116, 119, 111]⟩ b wr hK hN lK lN (hT.below o.b) (by show (3 : Nat) ≤ 10000; omega) (by omega)
    have hxy : ∀ i, (h1 : i < a.size) → (h2 : i < b.size) → (h3 : 12 + i < (boxD K N ⟨#[111, 110, 101]⟩ a).size) → (h4 : 12 + i < (boxD K N ⟨#[116, 119, 111]⟩ b).size) → ((boxD K N ⟨#[111, 110, 101]⟩ a)[12 + i]).toNat ^^^ ((boxD K N ⟨#[116, 119, 111]⟩ b)[12 + i]).toNat = a[i].toNat ^^^ b[i].toNat := fun i h1 h2 h3 h4 => by
      rw [byte_box hN lN h1, byte_box hN lN h2, xor_mid, ← tn_get a h1, ← tn_get b h2]
    generalize boxD K N ⟨#[111, 110, 101]⟩ a = x at *
    generalize boxD K N ⟨#[116, 119, 111]⟩ b = y at *
    clear hbig hT hK hN
    have HXY := Lib.hid hxy
    clear hxy
    go_enter Tryd.func9, Tryd.ntmps9
    go_wp2_with fail
    change Code.wp _ _ _ _ ((w.alloc (Obj.cells (vs .u8 K) 23)).alloc (Obj.cells (vs .u8 N) 24))
    rw [← HV.out]
    clear HV
    refine wp_region_held_drew (S := fun w' => Tn w w' K N) (by kernel_rfl) st.drew (fun hHeld => ?_)
    clear st
    generalize V.drew = W1 at *
    refine wpAnyH_take (i := 0) (oi := { dst := some 21, op := Op.load 23 (Operand.tmp 4), type := _, pos := _, after := _, guard := _ }) rfl (by kernel_rfl) (by kernel_rfl) (by kernel_rfl) (fun _ _ _ h => h) (yl t28 (by rfl) _ rfl _ rfl (fun w1 h => h.k) lK) hHeld ?_
    try simp only [Act.put, List.setIfInBounds_toArray, List.set_cons_zero, List.set_cons_succ]
    refine wpAnyH_take (i := 1) (oi := { dst := some 22, op := Op.load 24 (Operand.tmp 5), type := _, pos := _, after := _, guard := _ }) rfl (by kernel_rfl) (by kernel_rfl) (by kernel_rfl) (fun _ _ _ h => h) (yl tN (by rfl) _ rfl _ rfl (fun w1 h => h.n) lN) hHeld ?_
    try simp only [Act.put, List.setIfInBounds_toArray, List.set_cons_zero, List.set_cons_succ]
    refine wpAnyH_take (i := 2) (oi := { dst := some 23, op := Op.move (Operand.tmp 2), type := _, pos := _, after := _, guard := _ }) (v := ?_) rfl (by kernel_rfl) (by kernel_rfl) (by kernel_rfl) (fun _ _ _ h => h) (Or.inl ⟨by rfl, ?_⟩) hHeld ?_
    rotate_left
    · intro wq hSw
      go_simp
      rfl
    try simp only [Act.put, List.setIfInBounds_toArray, List.set_cons_zero, List.set_cons_succ]
    refine wpAnyH_take (i := 4) (oi := { dst := some 25, op := Op.load 23 (Operand.tmp 4), type := _, pos := _, after := _, guard := _ }) rfl (by kernel_rfl) (by kernel_rfl) (by kernel_rfl) (fun _ _ _ h => h) (yl t28 (by rfl) _ rfl _ rfl (fun w1 h => h.k) lK) hHeld ?_
    try simp only [Act.put, List.setIfInBounds_toArray, List.set_cons_zero, List.set_cons_succ]
    refine wpAnyH_take (i := 5) (oi := { dst := some 26, op := Op.load 24 (Operand.tmp 5), type := _, pos := _, after := _, guard := _ }) rfl (by kernel_rfl) (by kernel_rfl) (by kernel_rfl) (fun _ _ _ h => h) (yl tN (by rfl) _ rfl _ rfl (fun w1 h => h.n) lN) hHeld ?_
    try simp only [Act.put, List.setIfInBounds_toArray, List.set_cons_zero, List.set_cons_succ]
    refine wpAnyH_take (i := 6) (oi := { dst := some 27, op := Op.move (Operand.tmp 3), type := _, pos := _, after := _, guard := _ }) (v := ?_) rfl (by kernel_rfl) (by kernel_rfl) (by kernel_rfl) (fun _ _ _ h => h) (Or.inl ⟨by rfl, ?_⟩) hHeld ?_
    rotate_left
    · intro wq hSw
      go_simp
      rfl
    try simp only [Act.put, List.setIfInBounds_toArray, List.set_cons_zero, List.set_cons_succ]
    refine wpAnyH_ready (rs := [3]) (by kernel_rfl) (by simp) ?_
    refine AllReadyH.cons (o := { dst := some 24, op := Op.call { callee := Callee.value (Operand.func 11), args := #[Operand.tmp 21, Operand.tmp 22, Operand.const (Value.string { data := #[111, 110, 101] }), Operand.tmp 23], argTypes := #[23, 24, 9, 9] }, type := _, pos := _, after := _, guard := _ }) rfl (fun KK hKK => ?_) AllReadyH.nil
    have hKS := Lib.hid hKK
    clear hKK
    go_simp
    refine (hx1 _ hHeld).mono ?_
    rintro e w3 ⟨rfl, hx⟩
    go_wp2_with fail
    refine hKS.out.out _ _ (hHeld.below hx) (fun hHeld => ?_)
    clear hKS KK hx
    try simp only [Act.put, List.setIfInBounds_toArray, List.set_cons_zero, List.set_cons_succ]
    refine wpAnyH_ready (rs := [7]) (by kernel_rfl) (by simp) ?_
    refine AllReadyH.cons (o := { dst := some 28, op := Op.call { callee := Callee.value (Operand.func 11), args := #[Operand.tmp 25, Operand.tmp 26, Operand.const (Value.string { data := #[116, 119, 111] }), Operand.tmp 27], argTypes := #[23, 24, 9, 9] }, type := _, pos := _, after := _, guard := _ }) rfl (fun KK hKK => ?_) AllReadyH.nil
    have hKS := Lib.hid hKK
    clear hKK
    go_simp
    refine (hy1 _ hHeld).mono ?_
    rintro e w7 ⟨rfl, hx⟩
    go_wp2_with fail
    refine hKS.out.out _ _ (hHeld.below hx) (fun hHeld => ?_)
    clear hKS KK hx
    try simp only [Act.put, List.setIfInBounds_toArray, List.set_cons_zero, List.set_cons_succ]
    refine wpAnyH_take (i := 8) (oi := { dst := some 9, op := Op.assign (Operand.tmp 24), type := _, pos := _, after := _, guard := _ }) (v := ?_) rfl (by kernel_rfl) (by kernel_rfl) (by kernel_rfl) (fun _ _ _ h => h) (Or.inl ⟨by rfl, ?_⟩) hHeld ?_
    rotate_left
    · intro wq hSw
      go_simp
      rfl
    try simp only [Act.put, List.setIfInBounds_toArray, List.set_cons_zero, List.set_cons_succ]
    refine wpAnyH_take (i := 9) (oi := { dst := some 10, op := Op.assign (Operand.tmp 28), type := _, pos := _, after := _, guard := _ }) (v := ?_) rfl (by kernel_rfl) (by kernel_rfl) (by kernel_rfl) (fun _ _ _ h => h) (Or.inl ⟨by rfl, ?_⟩) hHeld ?_
    rotate_left
    · intro wq hSw
      go_simp
      rfl
    try simp only [Act.put, List.setIfInBounds_toArray, List.set_cons_zero, List.set_cons_succ]
    refine wpAnyH_done (by kernel_rfl) ?_ _
    clear hx1 hy1
    go_wp2_with fail
    have st := hHeld
    clear hHeld
    go_loopw [11] (fun i' wr => ∃ i : Nat, i ≤ a.size ∧ i ≤ b.size ∧ i' = .int .i64 i ∧ Tn w wr K N) (fun i _ => a.size - (intOf i).toNat)
    case atStart => exact ⟨0, by omega, by omega, rfl, st⟩
    case round =>
      clear st
      obtain ⟨i, hi, hj, rfl, st⟩ := hrel
      generalize wr = wo at *
      by_cases h1 : i < a.size
      · have e1 : (i : Int) < (a.size : Int) := by omega
        by_cases h2 : i < b.size
        · have e2 : (i : Int) < (b.size : Int) := by omega
          have X := HXY.out i h1 h2 (by omega) (by omega)
          have h3 : 12 + i < x.size := by omega
          have h4 : 12 + i < y.size := by omega
          have q1 := u8_xor_nat _ _ (UInt8.toNat_lt (x[12 + i]'(by omega))) (UInt8.toNat_lt (y[12 + i]'(by omega)))
          have q2 := u8_xor_nat _ _ (UInt8.toNat_lt (a[i]'h1)) (UInt8.toNat_lt (b[i]'h2))
          rw [X] at q1
          have n1 : (12 + (i : Int)).toNat = 12 + i := by omega
          have f1 : (0 : Int) ≤ 12 + (i : Int) := by omega
          have g1 : 12 + (i : Int) < (a.size : Int) + 44 := by omega
          have g2 : 12 + (i : Int) < (b.size : Int) + 44 := by omega
          have g3 : 12 + (i : Int) < (x.size : Int) := by omega
          have g4 : 12 + (i : Int) < (y.size : Int) := by omega
          go_wp2_with fail
          go_region
          go_wp2_with fail
          go_roundw
          case rel => exact ⟨i + 1, by omega, by omega, by go_num, st.drew⟩
          case measure => simp [intOf]; omega
        · have e2 : ¬ (i : Int) < (b.size : Int) := by omega
          go_wp2_with fail
          refine (ha _ st).mono ?_
          rintro e w4 ⟨rfl, hx⟩
          replace st := st.below hx
          clear hx
          go_wp2_with fail
          go_ret
          exact ⟨rfl, st.b⟩
      · have e1 : ¬ (i : Int) < (a.size : Int) := by omega
        go_wp2_with fail
        refine (ha _ st).mono ?_
        rintro e w4 ⟨rfl, hx⟩
        replace st := st.below hx
        clear hx
        go_wp2_with fail
        go_ret
        exact ⟨rfl, st.b⟩

set_option maxRecDepth 100000 in
theorem lifted (os : Os) (started : os.Started) (H : Type) (enc : TypeId × Value → H) :
    ReturnsInHanded {} Tryd.checked os 9 .any (fun w args => (Rows.sealStreamsSpec.pre enc Tryd.prog Tryd.f9 [] false w args ∧ laidMetH Tryd.prog laid2 w) ∧ sizedMet enc Tryd.prog Tryd.f9 (OpenSpec.ofChange Rows.sealStreamsSpec) false w args)
      (Rows.sealStreamsSpec.post enc Tryd.prog Tryd.f9 false true false false) := by
  refine returnsInHanded_of_change_and (C := Tryd.checked) (X := fun w _ => laidMetH Tryd.prog laid2 w) (fun _ _ _ hh h => h.of_heap hh) own started (by kernel_rfl) Tryd.func9
    (ChangeSpec.witness_shaped (enc := enc) (C := Tryd.checked) (os := os) (X := fun w _ => laidMetH Tryd.prog laid2 w) false (World.doorLaid Tryd.prog 400 os) #[.agg (Array.replicate 32 (.int .u8 0)), .agg (Array.replicate 12 (.int .u8 0)), .string ByteArray.empty, .string ByteArray.empty] 8 rfl (World.shaped_of_RefB (by kernel_rfl) (by kernel_rfl)) (by kernel_rfl) (by kernel_rfl) (by kernel_rfl) (door_met os _)) ?_
  intro W base args ds gs before hval0 hW _ _ hL _
  have hval : ∀ (j : Nat) t v, Tryd.f9.params[j]? = some t → args[j]? = some v → Value.okWide Tryd.prog W .any base t v := hval0
  have hW' := hW
  obtain ⟨p, q, hA0, hV, rfl, hfz, hnd⟩ := hW
  have hA : DataW.TrodAll enc Tryd.prog W 0 (fun _ => true) true Tryd.f9.params.toList args.toList ds p := hA0
  rw [Tryd.params9] at hA hval
  obtain ⟨v0, vs0, d0, ds0, p0, q0, hargs, rfl, rfl, h0, r0⟩ := trodAll_cons hA
  obtain ⟨v1, vs1, d1, ds1, p1, q1, rfl, rfl, rfl, h1, r1⟩ := trodAll_cons r0
  obtain ⟨v2, vs2, d2, ds2, p2, q2, rfl, rfl, rfl, h2, r2⟩ := trodAll_cons r1
  obtain ⟨v3, vs3, d3, ds3, p3, q3, rfl, rfl, rfl, h3, r3⟩ := trodAll_cons r2
  obtain ⟨rfl, rfl, rfl⟩ := trodAll_nil r3
  obtain rfl : args = #[v0, v1, v2, v3] := by cases args; simp_all
  obtain ⟨rfl, rfl⟩ := trodVars_none hV
  obtain ⟨K0, rfl, l0, b0⟩ := okKey (hval 0 23 v0 rfl rfl)
  have k0 := h0
  have lt0 : ∀ x ∈ p0, x.block < W.heap.size := by obtain ⟨m, hm⟩ := k0; exact DataW.trod_lt m _ _ _ hm
  obtain ⟨K1, rfl, l1, b1⟩ := okNon (hval 1 24 v1 rfl rfl)
  have k1 := h1
  have lt1 : ∀ x ∈ p1, x.block < W.heap.size := by obtain ⟨m, hm⟩ := k1; exact DataW.trod_lt m _ _ _ hm
  obtain ⟨a2, rfl, rfl, rfl, w2⟩ := open_string Tryd.underlying9 (hval 2 9 v2 rfl rfl) h2
  obtain ⟨a3, rfl, rfl, rfl, w3⟩ := open_string Tryd.underlying9 (hval 3 9 v3 rfl rfl) h3
  have hT := of_laid hL
  clear hA0 hval0
  refine (walk K0 K1 a2 a3 b0 l0 b1 l1 w2 w3 W hT).mono fun e W' ⟨he, bel⟩ => ?_
  subst he
  exact ⟨_, rfl, _, _, _, [], _, [], hW', trodAll_mk1 (shut_bool Tryd.underlying4 _), (trodAll_cons_mk (Below.trod laidOut (by kernel_rfl) (of_decide_eq_true (by kernel_rfl)) k0 bel lt0) (trodAll_cons_mk (Below.trod laidOut (by kernel_rfl) (of_decide_eq_true (by kernel_rfl)) k1 bel lt1) (trodAll_cons_mk (shut_string Tryd.underlying9 w2) (trodAll_cons_mk (shut_string Tryd.underlying9 w3) trodAll_mk0)))), rfl, bel.frame _, fun h => by cases h⟩

theorem bare : Rows.SealStreamsSaid :=
  OpenClaim.holds_of_wide 9 Tryd.f9 rfl rfl rfl rfl rfl rfl rfl ⟨rfl, rfl, rfl, rfl, rfl⟩ rfl rfl rfl rfl rfl (by kernel_rfl) Tryd.func9 (by kernel_rfl)
    (of_decide_eq_true (by kernel_rfl)) (by unfold Func.isWrapper; first | (rw [if_pos (by decide +kernel)]; kernel_rfl) | (rw [if_neg (by decide +kernel)]; exact ⟨rfl, rfl⟩))
    (fun os started H enc _ => lifted os started H enc)

/-- the statement -/
theorem proved : Rows.SealStreamsCardSaid :=
  Claim7.holds_tied_plain_at .later [] [.data, .data] true Rows.sealStreamsCard.stood.harness false
    bare (fun _ h => by cases h) (by kernel_rfl) (fun _ h => by cases h) sealStreams_row_tie rfl ⟨rfl, rfl⟩ (by kernel_rfl) rfl
    (fun f fn hf hfn => by
      obtain rfl : f = 9 := Option.some.inj ((show Tryd.prog.funcNamed "hibernacle/hibernaclelaw04.SealStreams" = some 9 by kernel_rfl).symm.trans hf) |>.symm
      obtain rfl : fn = Tryd.f9 := (Option.some.inj (Tryd.func9.symm.trans hfn)).symm
      exact ⟨by kernel_rfl, fun j t ht => by
        rw [Tryd.params9] at ht
        have hm : t ∈ [23, 24, 9, 9] := by simpa using Array.mem_of_getElem? ht
        have hall : ([23, 24, 9, 9].all fun u => !Tryd.prog.wantsStandIn u) = true := by kernel_rfl
        exact (show Tryd.prog.wantsStandIn t = false by simpa using List.all_eq_true.1 hall t hm)⟩)
    (by kernel_rfl)
end Go.Proofs.YtdmlfibnhcdhkaaDoor.sealStreams
