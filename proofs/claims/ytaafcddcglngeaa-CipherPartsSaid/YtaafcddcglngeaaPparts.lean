/-
  For every key, nonce, number, text and number of blocks the law CipherParts of package cipher returns true and leaves its arguments as they were; there is no condition.
-/
import Derived.Test.YtaafcddcglngeaaRows
import Derived.WalkKit
import Derived.ProofKit
import Derived.OpenShut
import Derived.ShutString
import Derived.Test.YtaafcddcglngeaaLm
namespace Go.Proofs.Ytaafcddcglngeaa.cipherParts
open Go.ChangeShapes Go.WideShapes Go.ChangeAt Go.RowKit
open Go.ChangeMaps (open_string shut_string)
set_option linter.unusedVariables false

theorem own : ownKnob Try.prog.godebug = none := by kernel_rfl
theorem laidOut : laidOutB Try.prog = true := by kernel_rfl

set_option maxRecDepth 100000 in
set_option maxHeartbeats 8000000 in
theorem walk (K N : List Nat) (n : Nat) (s : ByteArray) (b : Nat) (hK : Ch.By K) (hN : Ch.By N) (lK : K.length = 32) (lN : N.length = 12) (hn : n < 4294967296) (ws : s.size ≤ maxLen) (hbb : b < 256) (w : World) :
    Calls Try.prog 6 #[.agg (caseL K N n).toArray, .string s, .int .u8 b] w fun e w' => e = .returned (.bool true) ∧ Below w.heap.size w w' := by
  have hmax : maxLen ≤ 9223372036854775807 := by decide
  have hsz : s.size ≤ 9223372036854775807 := by omega
  have u23 := Try.underlying23
  have u24 := Try.underlying24
  have i23 : (Try.prog.info? 23).map (·.size) = some (vl K).length := by rw [t23.siz, vl_length, lK]
  have i24 : (Try.prog.info? 24).map (·.size) = some (vl N).length := by rw [t24.siz, vl_length, lN]
  obtain ⟨W0, hW0⟩ : ∃ W0, W0 = w.alloc (Obj.cells (caseL K N n).toArray 31) := ⟨_, rfl⟩
  have hb : Below w.heap.size w W0 := by rw [hW0]; exact (Below.refl _ w).alloc (by simp) _
  obtain ⟨r1, r2, c3⟩ : W0.rangeAt w.heap.size 0 (vl K) ∧ W0.rangeAt w.heap.size 32 (vl N) ∧ W0.cell? ⟨w.heap.size, 44, none⟩ = some (.int .u32 (n : Int)) := by
    rw [hW0]; exact case_ranges lK lN (Own.new _ _ _)
  have HW0 := Lib.hid hW0
  clear hW0
  obtain ⟨p, hp⟩ : ∃ p, p = 64 * b := ⟨_, rfl⟩
  have e1 : IntKind.i64.wrap (64 * (b : Int)) = (p : Int) := by rw [IntWalk.i64_in _ (by omega)]; omega
  by_cases hbig : 5000 < s.size
  · go_enter Try.func6, Try.ntmps6
    go_wp2_with fail
    rw [← HW0.out]
    refine (fixed_any _).mono ?_
    rintro e w1 ⟨rfl, hx⟩
    have hb := hb.trans (hx.mono hb.size)
    go_wp2_with fail
    go_ret
    exact ⟨rfl, hb⟩
  by_cases hat : s.size < p
  · go_enter Try.func6, Try.ntmps6
    go_wp2_with fail
    rw [← HW0.out]
    refine (fixed_any _).mono ?_
    rintro e w1 ⟨rfl, hx⟩
    have hb := hb.trans (hx.mono hb.size)
    go_wp2_with fail
    go_ret
    exact ⟨rfl, hb⟩
  obtain ⟨A, hA⟩ : ∃ A, A = bs (xs K N n (tn (s.extract 0 p))) := ⟨_, rfl⟩
  obtain ⟨m, hm⟩ : ∃ m, m = (n + b) % 4294967296 := ⟨_, rfl⟩
  obtain ⟨B, hB⟩ : ∃ B, B = bs (xs K N m (tn (s.extract p s.size))) := ⟨_, rfl⟩
  have hm2 : m < 4294967296 := by rw [hm]; exact Nat.mod_lt _ (by decide)
  have e2 : IntKind.u32.wrap ((n : Int) + (b : Int)) = (m : Int) := by rw [hm]; rfl
  have e3 : IntKind.u32.wrap (b : Int) = (b : Int) := IntWalk.u32_in _ (by omega)
  have hc1 := fun w => cxor_any K N n (s.extract 0 p) hK hN lK lN hn (by rw [ByteArray.size_extract]; omega) w
  have hc2 := fun w => cxor_any K N m (s.extract p s.size) hK hN lK lN hm2 (by rw [ByteArray.size_extract]; omega) w
  have hc3 := fun w => cxor_any K N n s hK hN lK lN hn (by omega) w
  have lA : A.size ≤ 5000 := by rw [hA, xs_size, ByteArray.size_extract]; omega
  have lB : B.size ≤ 5000 := by rw [hB, xs_size, ByteArray.size_extract]; omega
  have hAB : bs (xs K N n (tn s)) = A ++ B := by rw [hA, hB, hm, hp]; exact xs_parts K N n b s (by omega)
  rw [hAB] at hc3
  rw [← hA] at hc1
  rw [← hB] at hc2
  have hpI : (p : Int) ≤ (s.size : Int) := by omega
  have lAI : (A.size : Int) ≤ 5000 := by omega
  have lBI : (B.size : Int) ≤ 5000 := by omega
  clear hA hB hm hAB hp
  go_enter Try.func6, Try.ntmps6
  go_wp2_with fail
  rw [← HW0.out]
  clear HW0
  refine wp_region_held_drew (S := fun w' => w'.rangeAt w.heap.size 0 (vl K) ∧ w'.rangeAt w.heap.size 32 (vl N) ∧ w'.cell? ⟨w.heap.size, 44, none⟩ = some (.int .u32 (n : Int)) ∧ Below w.heap.size w w') (by kernel_rfl) ⟨r1, r2, c3, hb.drew⟩ (fun hHeld => ?_)
  clear r1 r2 c3 hb
  refine wpAnyH_take (i := 0) (oi := { dst := some 23, op := Op.fieldAddr 31 (.tmp 3) 0, type := _, pos := _, after := _, guard := _ }) (v := ?_) rfl (by kernel_rfl) (by kernel_rfl) (by kernel_rfl) (fun _ _ _ h => h) (Or.inl ⟨by rfl, ?_⟩) hHeld ?_
  rotate_left
  · intro wq hSw
    obtain ⟨_, _, cq, _⟩ := hSw
    go_simp
    rfl
  try simp only [Act.put, List.setIfInBounds_toArray, List.set_cons_zero, List.set_cons_succ]
  refine wpAnyH_take (i := 1) (oi := { dst := some 24, op := Op.load 23 (.tmp 23), type := _, pos := _, after := _, guard := _ }) rfl (by kernel_rfl) (by kernel_rfl) (by kernel_rfl) (fun _ _ _ h => h) (yieldsIf_load_mid (by rfl) _ _ rfl _ _ rfl _ _ (fun w h => h.1) u23 rfl i23) hHeld ?_
  try simp only [Act.put, List.setIfInBounds_toArray, List.set_cons_zero, List.set_cons_succ]
  refine wpAnyH_take (i := 2) (oi := { dst := some 25, op := Op.fieldAddr 31 (.tmp 3) 1, type := _, pos := _, after := _, guard := _ }) (v := ?_) rfl (by kernel_rfl) (by kernel_rfl) (by kernel_rfl) (fun _ _ _ h => h) (Or.inl ⟨by rfl, ?_⟩) hHeld ?_
  rotate_left
  · intro wq hSw
    obtain ⟨_, _, cq, _⟩ := hSw
    go_simp
    rfl
  try simp only [Act.put, List.setIfInBounds_toArray, List.set_cons_zero, List.set_cons_succ]
  refine wpAnyH_take (i := 3) (oi := { dst := some 26, op := Op.load 24 (.tmp 25), type := _, pos := _, after := _, guard := _ }) rfl (by kernel_rfl) (by kernel_rfl) (by kernel_rfl) (fun _ _ _ h => h) (yieldsIf_load_mid (by rfl) _ _ rfl _ _ rfl _ _ (fun w h => h.2.1) u24 rfl i24) hHeld ?_
  try simp only [Act.put, List.setIfInBounds_toArray, List.set_cons_zero, List.set_cons_succ]
  refine wpAnyH_take (i := 4) (oi := { dst := some 27, op := Op.fieldAddr 31 (.tmp 3) 2, type := _, pos := _, after := _, guard := _ }) (v := ?_) rfl (by kernel_rfl) (by kernel_rfl) (by kernel_rfl) (fun _ _ _ h => h) (Or.inl ⟨by rfl, ?_⟩) hHeld ?_
  rotate_left
  · intro wq hSw
    obtain ⟨_, _, cq, _⟩ := hSw
    go_simp
    rfl
  try simp only [Act.put, List.setIfInBounds_toArray, List.set_cons_zero, List.set_cons_succ]
  refine wpAnyH_take (i := 5) (oi := { dst := some 28, op := Op.load 25 (.tmp 27), type := _, pos := _, after := _, guard := _ }) (v := ?_) rfl (by kernel_rfl) (by kernel_rfl) (by kernel_rfl) (fun _ _ _ h => h) (Or.inl ⟨by rfl, ?_⟩) hHeld ?_
  rotate_left
  · intro wq hSw
    obtain ⟨_, _, cq, _⟩ := hSw
    go_simp
    rfl
  try simp only [Act.put, List.setIfInBounds_toArray, List.set_cons_zero, List.set_cons_succ]
  refine wpAnyH_take (i := 6) (oi := { dst := some 29, op := Op.move (.tmp 1), type := _, pos := _, after := _, guard := _ }) (v := ?_) rfl (by kernel_rfl) (by kernel_rfl) (by kernel_rfl) (fun _ _ _ h => h) (Or.inl ⟨by rfl, ?_⟩) hHeld ?_
  rotate_left
  · intro wq hSw
    obtain ⟨_, _, cq, _⟩ := hSw
    go_simp
    rfl
  try simp only [Act.put, List.setIfInBounds_toArray, List.set_cons_zero, List.set_cons_succ]
  refine wpAnyH_take (i := 7) (oi := { dst := some 30, op := Op.move (.tmp 7), type := _, pos := _, after := _, guard := _ }) (v := ?_) rfl (by kernel_rfl) (by kernel_rfl) (by kernel_rfl) (fun _ _ _ h => h) (Or.inl ⟨by rfl, ?_⟩) hHeld ?_
  rotate_left
  · intro wq hSw
    obtain ⟨_, _, cq, _⟩ := hSw
    go_simp
    rfl
  try simp only [Act.put, List.setIfInBounds_toArray, List.set_cons_zero, List.set_cons_succ]
  refine wpAnyH_take (i := 8) (oi := { dst := some 31, op := Op.slice 9 (.tmp 29) none (some (.tmp 30)) none, type := _, pos := _, after := _, guard := _ }) (v := ?_) rfl (by kernel_rfl) (by kernel_rfl) (by kernel_rfl) (fun _ _ _ h => h) (Or.inl ⟨by rfl, ?_⟩) hHeld ?_
  rotate_left
  · intro wq hSw
    obtain ⟨_, _, cq, _⟩ := hSw
    go_simp
    rfl
  try simp only [Act.put, List.setIfInBounds_toArray, List.set_cons_zero, List.set_cons_succ]
  refine wpAnyH_ready (rs := [9]) (by kernel_rfl) (by simp) ?_
  refine AllReadyH.cons (o := { dst := some 32, op := Op.call { callee := .value (.func 12), args := #[.tmp 24, .tmp 26, .tmp 28, .tmp 31], argTypes := #[23, 24, 25, 9] }, type := _, pos := _, after := _, guard := _ }) rfl (fun KK hKK => ?_) AllReadyH.nil
  go_simp
  refine (hc1 _).mono ?_
  rintro e w9 ⟨rfl, hx⟩
  go_wp2_with fail
  refine hKK.out _ _ (held3 hHeld hx) (fun hHeld => ?_)
  clear hKK KK hx
  try simp only [Act.put, List.setIfInBounds_toArray, List.set_cons_zero, List.set_cons_succ]
  refine wpAnyH_take (i := 10) (oi := { dst := some 8, op := Op.assign (.tmp 32), type := _, pos := _, after := _, guard := _ }) (v := ?_) rfl (by kernel_rfl) (by kernel_rfl) (by kernel_rfl) (fun _ _ _ h => h) (Or.inl ⟨by rfl, ?_⟩) hHeld ?_
  rotate_left
  · intro wq hSw
    obtain ⟨_, _, cq, _⟩ := hSw
    go_simp
    rfl
  try simp only [Act.put, List.setIfInBounds_toArray, List.set_cons_zero, List.set_cons_succ]
  refine wpAnyH_done (by kernel_rfl) ?_ _
  obtain ⟨r1, r2, c3, hb⟩ := hHeld
  clear hc1
  go_wp2_with fail
  refine wp_region_held_drew (S := fun w' => w'.rangeAt w.heap.size 0 (vl K) ∧ w'.rangeAt w.heap.size 32 (vl N) ∧ w'.cell? ⟨w.heap.size, 44, none⟩ = some (.int .u32 (n : Int)) ∧ Below w.heap.size w w') (by kernel_rfl) ⟨r1, r2, c3, hb.drew⟩ (fun hHeld => ?_)
  clear r1 r2 c3 hb
  refine wpAnyH_take (i := 0) (oi := { dst := some 33, op := Op.fieldAddr 31 (.tmp 3) 0, type := _, pos := _, after := _, guard := _ }) (v := ?_) rfl (by kernel_rfl) (by kernel_rfl) (by kernel_rfl) (fun _ _ _ h => h) (Or.inl ⟨by rfl, ?_⟩) hHeld ?_
  rotate_left
  · intro wq hSw
    obtain ⟨_, _, cq, _⟩ := hSw
    go_simp
    rfl
  try simp only [Act.put, List.setIfInBounds_toArray, List.set_cons_zero, List.set_cons_succ]
  refine wpAnyH_take (i := 1) (oi := { dst := some 34, op := Op.load 23 (.tmp 33), type := _, pos := _, after := _, guard := _ }) rfl (by kernel_rfl) (by kernel_rfl) (by kernel_rfl) (fun _ _ _ h => h) (yieldsIf_load_mid (by rfl) _ _ rfl _ _ rfl _ _ (fun w h => h.1) u23 rfl i23) hHeld ?_
  try simp only [Act.put, List.setIfInBounds_toArray, List.set_cons_zero, List.set_cons_succ]
  refine wpAnyH_take (i := 2) (oi := { dst := some 35, op := Op.fieldAddr 31 (.tmp 3) 1, type := _, pos := _, after := _, guard := _ }) (v := ?_) rfl (by kernel_rfl) (by kernel_rfl) (by kernel_rfl) (fun _ _ _ h => h) (Or.inl ⟨by rfl, ?_⟩) hHeld ?_
  rotate_left
  · intro wq hSw
    obtain ⟨_, _, cq, _⟩ := hSw
    go_simp
    rfl
  try simp only [Act.put, List.setIfInBounds_toArray, List.set_cons_zero, List.set_cons_succ]
  refine wpAnyH_take (i := 3) (oi := { dst := some 36, op := Op.load 24 (.tmp 35), type := _, pos := _, after := _, guard := _ }) rfl (by kernel_rfl) (by kernel_rfl) (by kernel_rfl) (fun _ _ _ h => h) (yieldsIf_load_mid (by rfl) _ _ rfl _ _ rfl _ _ (fun w h => h.2.1) u24 rfl i24) hHeld ?_
  try simp only [Act.put, List.setIfInBounds_toArray, List.set_cons_zero, List.set_cons_succ]
  refine wpAnyH_take (i := 4) (oi := { dst := some 37, op := Op.fieldAddr 31 (.tmp 3) 2, type := _, pos := _, after := _, guard := _ }) (v := ?_) rfl (by kernel_rfl) (by kernel_rfl) (by kernel_rfl) (fun _ _ _ h => h) (Or.inl ⟨by rfl, ?_⟩) hHeld ?_
  rotate_left
  · intro wq hSw
    obtain ⟨_, _, cq, _⟩ := hSw
    go_simp
    rfl
  try simp only [Act.put, List.setIfInBounds_toArray, List.set_cons_zero, List.set_cons_succ]
  refine wpAnyH_take (i := 5) (oi := { dst := some 38, op := Op.load 25 (.tmp 37), type := _, pos := _, after := _, guard := _ }) (v := ?_) rfl (by kernel_rfl) (by kernel_rfl) (by kernel_rfl) (fun _ _ _ h => h) (Or.inl ⟨by rfl, ?_⟩) hHeld ?_
  rotate_left
  · intro wq hSw
    obtain ⟨_, _, cq, _⟩ := hSw
    go_simp
    rfl
  try simp only [Act.put, List.setIfInBounds_toArray, List.set_cons_zero, List.set_cons_succ]
  refine wpAnyH_take (i := 6) (oi := { dst := some 39, op := Op.move (.tmp 2), type := _, pos := _, after := _, guard := _ }) (v := ?_) rfl (by kernel_rfl) (by kernel_rfl) (by kernel_rfl) (fun _ _ _ h => h) (Or.inl ⟨by rfl, ?_⟩) hHeld ?_
  rotate_left
  · intro wq hSw
    obtain ⟨_, _, cq, _⟩ := hSw
    go_simp
    rfl
  try simp only [Act.put, List.setIfInBounds_toArray, List.set_cons_zero, List.set_cons_succ]
  refine wpAnyH_take (i := 7) (oi := { dst := some 40, op := Op.convert 5 25 (.tmp 39), type := _, pos := _, after := _, guard := _ }) (v := ?_) rfl (by kernel_rfl) (by kernel_rfl) (by kernel_rfl) (fun _ _ _ h => h) (Or.inl ⟨by rfl, ?_⟩) hHeld ?_
  rotate_left
  · intro wq hSw
    obtain ⟨_, _, cq, _⟩ := hSw
    go_simp
    rfl
  try simp only [Act.put, List.setIfInBounds_toArray, List.set_cons_zero, List.set_cons_succ]
  refine wpAnyH_take (i := 8) (oi := { dst := some 41, op := Op.binOp .add 25 (.tmp 38) (.tmp 40) 25, type := _, pos := _, after := _, guard := _ }) (v := ?_) rfl (by kernel_rfl) (by kernel_rfl) (by kernel_rfl) (fun _ _ _ h => h) (Or.inl ⟨by rfl, ?_⟩) hHeld ?_
  rotate_left
  · intro wq hSw
    obtain ⟨_, _, cq, _⟩ := hSw
    go_simp
    rfl
  try simp only [Act.put, List.setIfInBounds_toArray, List.set_cons_zero, List.set_cons_succ]
  refine wpAnyH_take (i := 9) (oi := { dst := some 42, op := Op.move (.tmp 1), type := _, pos := _, after := _, guard := _ }) (v := ?_) rfl (by kernel_rfl) (by kernel_rfl) (by kernel_rfl) (fun _ _ _ h => h) (Or.inl ⟨by rfl, ?_⟩) hHeld ?_
  rotate_left
  · intro wq hSw
    obtain ⟨_, _, cq, _⟩ := hSw
    go_simp
    rfl
  try simp only [Act.put, List.setIfInBounds_toArray, List.set_cons_zero, List.set_cons_succ]
  refine wpAnyH_take (i := 10) (oi := { dst := some 43, op := Op.move (.tmp 7), type := _, pos := _, after := _, guard := _ }) (v := ?_) rfl (by kernel_rfl) (by kernel_rfl) (by kernel_rfl) (fun _ _ _ h => h) (Or.inl ⟨by rfl, ?_⟩) hHeld ?_
  rotate_left
  · intro wq hSw
    obtain ⟨_, _, cq, _⟩ := hSw
    go_simp
    rfl
  try simp only [Act.put, List.setIfInBounds_toArray, List.set_cons_zero, List.set_cons_succ]
  refine wpAnyH_take (i := 11) (oi := { dst := some 44, op := Op.slice 9 (.tmp 42) (some (.tmp 43)) none none, type := _, pos := _, after := _, guard := _ }) (v := ?_) rfl (by kernel_rfl) (by kernel_rfl) (by kernel_rfl) (fun _ _ _ h => h) (Or.inl ⟨by rfl, ?_⟩) hHeld ?_
  rotate_left
  · intro wq hSw
    obtain ⟨_, _, cq, _⟩ := hSw
    go_simp
    rfl
  try simp only [Act.put, List.setIfInBounds_toArray, List.set_cons_zero, List.set_cons_succ]
  refine wpAnyH_ready (rs := [12]) (by kernel_rfl) (by simp) ?_
  refine AllReadyH.cons (o := { dst := some 45, op := Op.call { callee := .value (.func 12), args := #[.tmp 34, .tmp 36, .tmp 41, .tmp 44], argTypes := #[23, 24, 25, 9] }, type := _, pos := _, after := _, guard := _ }) rfl (fun KK hKK => ?_) AllReadyH.nil
  go_simp
  refine (hc2 _).mono ?_
  rintro e w12 ⟨rfl, hx⟩
  go_wp2_with fail
  refine hKK.out _ _ (held3 hHeld hx) (fun hHeld => ?_)
  clear hKK KK hx
  try simp only [Act.put, List.setIfInBounds_toArray, List.set_cons_zero, List.set_cons_succ]
  refine wpAnyH_take (i := 13) (oi := { dst := some 9, op := Op.assign (.tmp 45), type := _, pos := _, after := _, guard := _ }) (v := ?_) rfl (by kernel_rfl) (by kernel_rfl) (by kernel_rfl) (fun _ _ _ h => h) (Or.inl ⟨by rfl, ?_⟩) hHeld ?_
  rotate_left
  · intro wq hSw
    obtain ⟨_, _, cq, _⟩ := hSw
    go_simp
    rfl
  try simp only [Act.put, List.setIfInBounds_toArray, List.set_cons_zero, List.set_cons_succ]
  refine wpAnyH_done (by kernel_rfl) ?_ _
  obtain ⟨r1, r2, c3, hb⟩ := hHeld
  clear hc2
  go_wp2_with fail
  refine (fixed_any _).mono ?_
  rintro e wf ⟨rfl, hx⟩
  obtain ⟨r1, r2, c3, hb⟩ := held3 ⟨r1, r2, c3, hb⟩ hx
  clear hx
  go_wp2_with (first | (refine ldg t23 rfl rfl rfl r1 lK ?_) | (refine ldg t24 rfl rfl rfl r2 lN ?_))
  refine (hc3 _).mono ?_
  rintro e wl ⟨rfl, hx⟩
  have hb := hb.trans (hx.mono hb.size)
  go_wp2_with fail
  go_ret
  exact ⟨rfl, hb⟩

set_option maxRecDepth 100000 in
theorem lifted (os : Os) (started : os.Started) (H : Type) (enc : TypeId × Value → H) :
    ReturnsInHanded {} Try.checked os 6 .any (Rows.cipherPartsSpec.pre6 enc Try.prog Try.f6 Rows.cipherPartsRow.domain false) (Rows.cipherPartsSpec.post enc Try.prog Try.f6 false true false false) := by
  refine returnsInHanded_of_change (C := Try.checked) own started (by kernel_rfl) Try.func6
    (ChangeSpec.witness6 (enc := enc) (C := Try.checked) false ⟨#[], #[.agg (Array.replicate 44 (.int .u8 0) ++ #[.int .u32 0]), .string ByteArray.empty, .int .u8 0], []⟩ 8 (by kernel_rfl) (by kernel_rfl) (by kernel_rfl) (by kernel_rfl)) ?_
  intro W base args ds gs before hval0 hW hcnd _
  have hval : ∀ (j : Nat) t v, Try.f6.params[j]? = some t → args[j]? = some v → Value.okWide Try.prog W .any base t v := hval0
  have hW' := hW
  obtain ⟨p, q, hA0, hV, rfl, hfz, hnd⟩ := hW
  have hA : DataW.TrodAll enc Try.prog W 0 (fun _ => true) true Try.f6.params.toList args.toList ds p := hA0
  rw [Try.params6] at hA hval
  obtain ⟨v0, vs0, d0, ds0, p0, q0, hargs, rfl, rfl, h0, r0⟩ := trodAll_cons hA
  obtain ⟨v1, vs1, d1, ds1, p1, q1, rfl, rfl, rfl, h1, r1⟩ := trodAll_cons r0
  obtain ⟨v2, vs2, d2, ds2, p2, q2, rfl, rfl, rfl, h2, r2⟩ := trodAll_cons r1
  obtain ⟨rfl, rfl, rfl⟩ := trodAll_nil r2
  obtain rfl : args = #[v0, v1, v2] := by cases args; simp_all
  obtain ⟨rfl, rfl⟩ := trodVars_none hV
  obtain ⟨K0, N0, n0, rfl, l0, m0, b0, c0, z0⟩ := okCase (hval 0 31 v0 rfl rfl)
  have k0 := h0
  have lt0 : ∀ x ∈ p0, x.block < W.heap.size := by obtain ⟨m, hm⟩ := k0; exact DataW.trod_lt m _ _ _ hm
  obtain ⟨a1, rfl, rfl, rfl, w1⟩ := open_string Try.underlying9 (hval 1 9 v1 rfl rfl) h1
  obtain ⟨n2, rfl, rfl, rfl, w2⟩ := open_int Try.underlying5 (hval 2 5 v2 rfl rfl) h2
  obtain ⟨m2, rfl, z2⟩ := nat_u8 w2
  clear hA0 hval0
  refine (walk K0 N0 n0 a1 m2 b0 c0 l0 m0 z0 w1 z2 W).mono fun e W' ⟨he, bel⟩ => ?_
  subst he
  exact ⟨_, rfl, _, _, _, [], _, [], hW', trodAll_mk1 (shut_bool Try.underlying4 _), (trodAll_cons_mk (Below.trod laidOut (by kernel_rfl) (of_decide_eq_true (by kernel_rfl)) k0 bel lt0) (trodAll_cons_mk (shut_string Try.underlying9 w1) (trodAll_cons_mk (shut_int Try.underlying5 w2) trodAll_mk0))), rfl, bel.frame _, fun h => by cases h⟩

theorem over : Rows.cipherPartsRow.holds Try.pinned (OpenSpec.ofChange Rows.cipherPartsSpec) :=
  OpenClaim.holds_of_wide 6 Try.f6 rfl rfl rfl rfl rfl rfl rfl ⟨rfl, rfl, rfl, rfl, rfl⟩ rfl rfl rfl rfl rfl (by kernel_rfl) Try.func6 (by kernel_rfl)
    (of_decide_eq_true (by kernel_rfl)) (by unfold Func.isWrapper; first | (rw [if_pos (by decide +kernel)]; kernel_rfl) | (rw [if_neg (by decide +kernel)]; exact ⟨rfl, rfl⟩))
    (fun os started H enc _ => lifted os started H enc)

/-- the statement -/
theorem proved : Rows.CipherPartsSaid := over
end Go.Proofs.Ytaafcddcglngeaa.cipherParts
