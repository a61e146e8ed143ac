/-
  For every key, nonce, number and number of blocks the law CipherStream of package cipher returns true and leaves its arguments as they were; there is no condition.
-/
import Derived.Test.YtaafcddcglngeaaRows
import Derived.WalkKit
import Derived.ProofKit
import Derived.OpenShut
import Derived.ShutString
import Derived.Test.YtaafcddcglngeaaLm
namespace Go.Proofs.Ytaafcddcglngeaa.cipherStream
open Go.ChangeShapes Go.WideShapes Go.ChangeAt Go.RowKit
open Go.ChangeMaps (open_string shut_string)
set_option linter.unusedVariables false

theorem own : ownKnob Try.prog.godebug = none := by kernel_rfl
theorem laidOut : laidOutB Try.prog = true := by kernel_rfl

set_option maxRecDepth 100000 in
set_option maxHeartbeats 8000000 in
theorem walk (K N : List Nat) (n : Nat) (b : Nat) (hK : Ch.By K) (hN : Ch.By N) (lK : K.length = 32) (lN : N.length = 12) (hn : n < 4294967296) (hbb : b < 256) (w : World) :
    Calls Try.prog 8 #[.agg (caseL K N n).toArray, .int .u8 b] w fun e w' => e = .returned (.bool true) ∧ Below w.heap.size w w' := by
  have hmax : maxLen ≤ 9223372036854775807 := by decide
  have u23 := Try.underlying23
  have u24 := Try.underlying24
  have i23 : (Try.prog.info? 23).map (·.size) = some (vl K).length := by rw [t23.siz, vl_length, lK]
  have i24 : (Try.prog.info? 24).map (·.size) = some (vl N).length := by rw [t24.siz, vl_length, lN]
  obtain ⟨W0, hW0⟩ : ∃ W0, W0 = w.alloc (Obj.cells (caseL K N n).toArray 31) := ⟨_, rfl⟩
  have hb : Below w.heap.size w W0 := by rw [hW0]; exact (Below.refl _ w).alloc (by simp) _
  obtain ⟨r1, r2, c3⟩ : W0.rangeAt w.heap.size 0 (vl K) ∧ W0.rangeAt w.heap.size 32 (vl N) ∧ W0.cell? ⟨w.heap.size, 44, none⟩ = some (.int .u32 (n : Int)) := by
    rw [hW0]; exact case_ranges lK lN (Own.new _ _ _)
  have HW0 := Lib.hid hW0
  clear hW0
  obtain ⟨c, hc⟩ : ∃ c, c = b % 20 := ⟨_, rfl⟩
  have hc20 : c < 20 := by omega
  have e0 : (b : Int).tmod 20 = (c : Int) := by rw [Int.tmod_eq_emod_of_nonneg (by omega)]; omega
  have e0' : (b : Int) % 20 = (c : Int) := by omega
  obtain ⟨p, hp⟩ : ∃ p, p = 64 * c := ⟨_, rfl⟩
  have e1 : IntKind.i64.wrap (64 * (c : Int)) = (p : Int) := by rw [IntWalk.i64_in _ (by omega)]; omega
  have lz : (bs (List.replicate p 0)).size = p := by rw [bs_size]; simp
  have hcall := fun w => cxor_any K N n (bs (List.replicate p 0)) hK hN lK lN hn (by rw [lz]; omega) w
  rw [tn_bs (by_zero p)] at hcall
  have hmk := fun w => run_make_row' 36 5 (.int .u8 0) 1 Try.underlying36 info5b rfl .i64 .i64 p (by omega) (by omega) w
  rw [made_zero] at hmk
  have o := (Own.new W0 5 (vs .u8 (List.replicate p 0))).drew
  have cv := bs_conv _ _ _ (List.replicate p 0) p (by simp) o
  have lX : (bs (xs K N n (List.replicate p 0))).size = p := by rw [bs_size, xs_length]; simp
  have hst := fun i (hi : i < c) => xs_zero K N n c i hi
  rw [← hp] at hst
  generalize bs (xs K N n (List.replicate p 0)) = X at *
  have HST := Lib.hid hst
  have HP := Lib.hid hp
  clear hst hp hc lz o
  go_enter Try.func8, Try.ntmps8
  go_wp2_with fail
  rw [← HW0.out]
  clear HW0
  refine wp_region_held_drew (S := fun w' => w'.rangeAt w.heap.size 0 (vl K) ∧ w'.rangeAt w.heap.size 32 (vl N) ∧ w'.cell? ⟨w.heap.size, 44, none⟩ = some (.int .u32 (n : Int)) ∧ Below w.heap.size w w') (by kernel_rfl) ⟨r1, r2, c3, hb.drew⟩ (fun hHeld => ?_)
  clear r1 r2 c3 hb
  refine wpAnyH_take (i := 0) (oi := { dst := some 12, op := Op.fieldAddr 31 (.tmp 2) 0, type := _, pos := _, after := _, guard := _ }) (v := ?_) rfl (by kernel_rfl) (by kernel_rfl) (by kernel_rfl) (fun _ _ _ h => h) (Or.inl ⟨by rfl, ?_⟩) hHeld ?_
  rotate_left
  · intro wq hSw
    obtain ⟨_, _, cq, _⟩ := hSw
    go_simp
    rfl
  try simp only [Act.put, List.setIfInBounds_toArray, List.set_cons_zero, List.set_cons_succ]
  refine wpAnyH_take (i := 1) (oi := { dst := some 13, op := Op.load 23 (.tmp 12), type := _, pos := _, after := _, guard := _ }) rfl (by kernel_rfl) (by kernel_rfl) (by kernel_rfl) (fun _ _ _ h => h) (yieldsIf_load_mid (by rfl) _ _ rfl _ _ rfl _ _ (fun w h => h.1) u23 rfl i23) hHeld ?_
  try simp only [Act.put, List.setIfInBounds_toArray, List.set_cons_zero, List.set_cons_succ]
  refine wpAnyH_take (i := 2) (oi := { dst := some 14, op := Op.fieldAddr 31 (.tmp 2) 1, type := _, pos := _, after := _, guard := _ }) (v := ?_) rfl (by kernel_rfl) (by kernel_rfl) (by kernel_rfl) (fun _ _ _ h => h) (Or.inl ⟨by rfl, ?_⟩) hHeld ?_
  rotate_left
  · intro wq hSw
    obtain ⟨_, _, cq, _⟩ := hSw
    go_simp
    rfl
  try simp only [Act.put, List.setIfInBounds_toArray, List.set_cons_zero, List.set_cons_succ]
  refine wpAnyH_take (i := 3) (oi := { dst := some 15, op := Op.load 24 (.tmp 14), type := _, pos := _, after := _, guard := _ }) rfl (by kernel_rfl) (by kernel_rfl) (by kernel_rfl) (fun _ _ _ h => h) (yieldsIf_load_mid (by rfl) _ _ rfl _ _ rfl _ _ (fun w h => h.2.1) u24 rfl i24) hHeld ?_
  try simp only [Act.put, List.setIfInBounds_toArray, List.set_cons_zero, List.set_cons_succ]
  refine wpAnyH_take (i := 4) (oi := { dst := some 16, op := Op.fieldAddr 31 (.tmp 2) 2, type := _, pos := _, after := _, guard := _ }) (v := ?_) rfl (by kernel_rfl) (by kernel_rfl) (by kernel_rfl) (fun _ _ _ h => h) (Or.inl ⟨by rfl, ?_⟩) hHeld ?_
  rotate_left
  · intro wq hSw
    obtain ⟨_, _, cq, _⟩ := hSw
    go_simp
    rfl
  try simp only [Act.put, List.setIfInBounds_toArray, List.set_cons_zero, List.set_cons_succ]
  refine wpAnyH_take (i := 5) (oi := { dst := some 17, op := Op.load 25 (.tmp 16), type := _, pos := _, after := _, guard := _ }) (v := ?_) rfl (by kernel_rfl) (by kernel_rfl) (by kernel_rfl) (fun _ _ _ h => h) (Or.inl ⟨by rfl, ?_⟩) hHeld ?_
  rotate_left
  · intro wq hSw
    obtain ⟨_, _, cq, _⟩ := hSw
    go_simp
    rfl
  try simp only [Act.put, List.setIfInBounds_toArray, List.set_cons_zero, List.set_cons_succ]
  refine wpAnyH_take (i := 6) (oi := { dst := some 18, op := Op.move (.tmp 5), type := _, pos := _, after := _, guard := _ }) (v := ?_) rfl (by kernel_rfl) (by kernel_rfl) (by kernel_rfl) (fun _ _ _ h => h) (Or.inl ⟨by rfl, ?_⟩) hHeld ?_
  rotate_left
  · intro wq hSw
    obtain ⟨_, _, cq, _⟩ := hSw
    go_simp
    rfl
  try simp only [Act.put, List.setIfInBounds_toArray, List.set_cons_zero, List.set_cons_succ]
  refine wpAnyH_take (i := 7) (oi := { dst := some 19, op := Op.binOp .mul 3 (.const (.int .i64 64)) (.tmp 18) 3, type := _, pos := _, after := _, guard := _ }) (v := ?_) rfl (by kernel_rfl) (by kernel_rfl) (by kernel_rfl) (fun _ _ _ h => h) (Or.inl ⟨by rfl, ?_⟩) hHeld ?_
  rotate_left
  · intro wq hSw
    obtain ⟨_, _, cq, _⟩ := hSw
    go_simp
    rfl
  try simp only [Act.put, List.setIfInBounds_toArray, List.set_cons_zero, List.set_cons_succ]
  refine wpAnyH_ready (rs := [8]) (by kernel_rfl) (by simp) ?_
  refine AllReadyH.cons (o := { dst := some 20, op := Op.makeSlice 36 (.tmp 19) (.tmp 19), type := _, pos := _, after := _, guard := _ }) rfl (fun KK hKK => ?_) AllReadyH.nil
  go_simp
  refine hKK.out _ _ (held3 hHeld ((Below.refl _ _).alloc (Nat.le_refl _) _)) (fun hHeld => ?_)
  clear hKK KK
  try simp only [Act.put, List.setIfInBounds_toArray, List.set_cons_zero, List.set_cons_succ]
  refine wpAnyH_ready (rs := [9]) (by kernel_rfl) (by simp) ?_
  refine AllReadyH.cons (o := { dst := some 21, op := Op.convert 36 9 (.tmp 20), type := _, pos := _, after := _, guard := _ }) rfl (fun KK hKK => ?_) AllReadyH.nil
  go_simp
  refine hKK.out _ _ (hHeld) (fun hHeld => ?_)
  clear hKK KK
  try simp only [Act.put, List.setIfInBounds_toArray, List.set_cons_zero, List.set_cons_succ]
  refine wpAnyH_ready (rs := [10]) (by kernel_rfl) (by simp) ?_
  refine AllReadyH.cons (o := { dst := some 22, op := Op.call { callee := .value (.func 12), args := #[.tmp 13, .tmp 15, .tmp 17, .tmp 21], argTypes := #[23, 24, 25, 9] }, type := _, pos := _, after := _, guard := _ }) rfl (fun KK hKK => ?_) AllReadyH.nil
  go_simp
  refine (hcall _).mono ?_
  rintro e w10 ⟨rfl, hx⟩
  go_wp2_with fail
  refine hKK.out _ _ (held3 hHeld hx) (fun hHeld => ?_)
  clear hKK KK hx
  try simp only [Act.put, List.setIfInBounds_toArray, List.set_cons_zero, List.set_cons_succ]
  refine wpAnyH_take (i := 11) (oi := { dst := some 6, op := Op.assign (.tmp 22), type := _, pos := _, after := _, guard := _ }) (v := ?_) rfl (by kernel_rfl) (by kernel_rfl) (by kernel_rfl) (fun _ _ _ h => h) (Or.inl ⟨by rfl, ?_⟩) hHeld ?_
  rotate_left
  · intro wq hSw
    obtain ⟨_, _, cq, _⟩ := hSw
    go_simp
    rfl
  try simp only [Act.put, List.setIfInBounds_toArray, List.set_cons_zero, List.set_cons_succ]
  refine wpAnyH_done (by kernel_rfl) ?_ _
  clear hcall hmk cv
  go_wp2_with fail
  go_loopw [29] (fun i' wr => ∃ i : Nat, i' = .int .i64 i ∧ i ≤ c ∧ wr.rangeAt w.heap.size 0 (vl K) ∧ wr.rangeAt w.heap.size 32 (vl N) ∧ wr.cell? ⟨w.heap.size, 44, none⟩ = some (.int .u32 (n : Int)) ∧ Below w.heap.size w wr) (fun i _ => c - (intOf i).toNat)
  case atStart => exact ⟨0, rfl, by omega, hHeld⟩
  case round =>
    clear hHeld
    obtain ⟨i, rfl, hi, r1, r2, c3, hb⟩ := hrel
    generalize wr = wo at *
    by_cases h1 : i < c
    · have iI : (i : Int) < (c : Int) := by omega
      obtain ⟨q, hq⟩ : ∃ q, q = 64 * i := ⟨_, rfl⟩
      obtain ⟨q2, hq2⟩ : ∃ q, q = 64 * i + 64 := ⟨_, rfl⟩
      obtain ⟨m, hm⟩ : ∃ m, m = (n + i) % 4294967296 := ⟨_, rfl⟩
      have hm2 : m < 4294967296 := by rw [hm]; exact Nat.mod_lt _ (by decide)
      have e2 : IntKind.i64.wrap (64 * (i : Int)) = (q : Int) := by rw [IntWalk.i64_in _ (by omega)]; omega
      have e3 : IntKind.i64.wrap ((q : Int) + 64) = (q2 : Int) := by rw [IntWalk.i64_in _ (by omega)]; omega
      have e4 : IntKind.u32.wrap (i : Int) = (i : Int) := IntWalk.u32_in _ (by omega)
      have e5 : IntKind.u32.wrap ((n : Int) + (i : Int)) = (m : Int) := by rw [hm]; rfl
      have hcb := fun w => block_any K N m hK hN lK lN hm2 w
      have lBk := Ch.block_length K N m
      have hex := HST.out i h1
      rw [← hq2, ← hq, ← hm] at hex
      have iq : (q : Int) ≤ (q2 : Int) := by omega
      have iq2 : (q2 : Int) ≤ (p : Int) := by have := HP.out; omega
      generalize Ch.block K N m = Bk at *
      clear hq hq2 hm hm2
      go_wp2_with (first | (refine ldg t23 rfl rfl rfl r1 lK ?_) | (refine ldg t24 rfl rfl rfl r2 lN ?_))
      refine (hcb _).mono ?_
      rintro e w3 ⟨rfl, hx⟩
      obtain ⟨r1, r2, c3, hb⟩ := held3 ⟨r1, r2, c3, hb⟩ hx
      clear hx hcb
      obtain ⟨r1, r2, c3, hb⟩ := held3 ⟨r1, r2, c3, hb⟩ ((Below.refl _ w3).alloc (Nat.le_refl _) (Obj.cells (vs .u8 Bk) 27))
      have ob := Own.new w3 27 (vs .u8 Bk)
      have cvk := fun k => bs_conv ((w3.alloc (Obj.cells (vs .u8 Bk) 27)).drewN k) _ _ Bk 64 lBk ob
      have cv0 := bs_conv (w3.alloc (Obj.cells (vs .u8 Bk) 27)) _ _ Bk 64 lBk ob
      go_wp2_with (refine sto_new t27 rfl rfl rfl rfl rfl rfl lBk ?_)
      generalize (w3.alloc (Obj.cells (vs .u8 Bk) 27)) = w4 at *
      generalize w3.heap.size = G at *
      clear ob
      go_quiet (fail)
      have r1 : (w4.drewN nq).rangeAt w.heap.size 0 (vl K) := r1
      have r2 : (w4.drewN nq).rangeAt w.heap.size 32 (vl N) := r2
      have c3 : (w4.drewN nq).cell? ⟨w.heap.size, 44, none⟩ = some (.int .u32 (n : Int)) := c3
      have hb : Below w.heap.size w (w4.drewN nq) := ⟨hb.os, hb.tape, hb.output, hb.size, hb.block⟩
      clear cvk cv0
      generalize w4.drewN nq = w5 at *
      go_wp2_with fail
      go_roundw
      case rel => exact ⟨i + 1, by go_num, by omega, r1, r2, c3, hb⟩
      case measure => simp [intOf]; omega
    · go_wp2_with fail
      refine (fixed_any _).mono ?_
      rintro e w1 ⟨rfl, hx⟩
      have hb := hb.trans (hx.mono hb.size)
      go_wp2_with fail
      go_ret
      exact ⟨rfl, hb⟩

set_option maxRecDepth 100000 in
theorem lifted (os : Os) (started : os.Started) (H : Type) (enc : TypeId × Value → H) :
    ReturnsInHanded {} Try.checked os 8 .any (Rows.cipherStreamSpec.pre6 enc Try.prog Try.f8 Rows.cipherStreamRow.domain false) (Rows.cipherStreamSpec.post enc Try.prog Try.f8 false true false false) := by
  refine returnsInHanded_of_change (C := Try.checked) own started (by kernel_rfl) Try.func8
    (ChangeSpec.witness6 (enc := enc) (C := Try.checked) false ⟨#[], #[.agg (Array.replicate 44 (.int .u8 0) ++ #[.int .u32 0]), .int .u8 0], []⟩ 8 (by kernel_rfl) (by kernel_rfl) (by kernel_rfl) (by kernel_rfl)) ?_
  intro W base args ds gs before hval0 hW hcnd _
  have hval : ∀ (j : Nat) t v, Try.f8.params[j]? = some t → args[j]? = some v → Value.okWide Try.prog W .any base t v := hval0
  have hW' := hW
  obtain ⟨p, q, hA0, hV, rfl, hfz, hnd⟩ := hW
  have hA : DataW.TrodAll enc Try.prog W 0 (fun _ => true) true Try.f8.params.toList args.toList ds p := hA0
  rw [Try.params8] at hA hval
  obtain ⟨v0, vs0, d0, ds0, p0, q0, hargs, rfl, rfl, h0, r0⟩ := trodAll_cons hA
  obtain ⟨v1, vs1, d1, ds1, p1, q1, rfl, rfl, rfl, h1, r1⟩ := trodAll_cons r0
  obtain ⟨rfl, rfl, rfl⟩ := trodAll_nil r1
  obtain rfl : args = #[v0, v1] := by cases args; simp_all
  obtain ⟨rfl, rfl⟩ := trodVars_none hV
  obtain ⟨K0, N0, n0, rfl, l0, m0, b0, c0, z0⟩ := okCase (hval 0 31 v0 rfl rfl)
  have k0 := h0
  have lt0 : ∀ x ∈ p0, x.block < W.heap.size := by obtain ⟨m, hm⟩ := k0; exact DataW.trod_lt m _ _ _ hm
  obtain ⟨n1, rfl, rfl, rfl, w1⟩ := open_int Try.underlying5 (hval 1 5 v1 rfl rfl) h1
  obtain ⟨m1, rfl, z1⟩ := nat_u8 w1
  clear hA0 hval0
  refine (walk K0 N0 n0 m1 b0 c0 l0 m0 z0 z1 W).mono fun e W' ⟨he, bel⟩ => ?_
  subst he
  exact ⟨_, rfl, _, _, _, [], _, [], hW', trodAll_mk1 (shut_bool Try.underlying4 _), (trodAll_cons_mk (Below.trod laidOut (by kernel_rfl) (of_decide_eq_true (by kernel_rfl)) k0 bel lt0) (trodAll_cons_mk (shut_int Try.underlying5 w1) trodAll_mk0)), rfl, bel.frame _, fun h => by cases h⟩

theorem over : Rows.cipherStreamRow.holds Try.pinned (OpenSpec.ofChange Rows.cipherStreamSpec) :=
  OpenClaim.holds_of_wide 8 Try.f8 rfl rfl rfl rfl rfl rfl rfl ⟨rfl, rfl, rfl, rfl, rfl⟩ rfl rfl rfl rfl rfl (by kernel_rfl) Try.func8 (by kernel_rfl)
    (of_decide_eq_true (by kernel_rfl)) (by unfold Func.isWrapper; first | (rw [if_pos (by decide +kernel)]; kernel_rfl) | (rw [if_neg (by decide +kernel)]; exact ⟨rfl, rfl⟩))
    (fun os started H enc _ => lifted os started H enc)

/-- the statement -/
theorem proved : Rows.CipherStreamSaid := over
end Go.Proofs.Ytaafcddcglngeaa.cipherStream
