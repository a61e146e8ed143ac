/-
  For every two texts ParityOr answers true: the parts of the exclusive or of two texts of one length are the exclusive or of theirs; the arguments read as before.
-/
import Derived.Test.YtgfnpemonpebpaaRows
import Derived.Test.YtgfnpemonpebpaaOk
import Derived.WalkKit
import Derived.ProofKit
import Derived.OpenShut
import Derived.ShutString
import Derived.Test.YtgfnpemonpebpaaLk
namespace Go.Proofs.Ytgfnpemonpebpaa.parityOr
open Go.ChangeShapes Go.WideShapes Go.ChangeAt Go.RowKit
open Go.ChangeMaps (open_string shut_string)
set_option linter.unusedVariables false
set_option linter.unusedSimpArgs false

theorem own : ownKnob Try.prog.godebug = none := by kernel_rfl
set_option maxRecDepth 100000 in
set_option maxHeartbeats 3000000 in
theorem walk (A B : ByteArray) (wA : A.size ≤ maxLen) (wB : B.size ≤ maxLen) (W : World) :
    Calls Try.prog 6 #[.string A, .string B] W fun e w' => e = .returned (.bool true) ∧ Below W.heap.size W w' := by
  have hf := fun w => fixed_any w
  by_cases hA : 3000 < A.size
  · have d0 : 3000 < (A.size : Int) := by omega
    go_enter Try.func6, Try.ntmps6
    go_wp2_with (go_at_call 9; refine (hf _).mono ?_; rintro e w1 ⟨rfl, hb⟩)
    go_ret
    exact ⟨rfl, hb⟩
  · have d0 : decide (3000 < (A.size : Int)) = false := by simp; omega
    by_cases hAB : A.size = B.size
    · obtain ⟨N, hN⟩ : ∃ N, N = A.size := ⟨_, rfl⟩
      have hN2 : B.size = N := by omega
      have hN1 : A.size = N := hN.symm
      have hN3 : N ≤ 3000 := by omega
      have t0 : ((N : Int) != (N : Int)) = false := by simp
      obtain ⟨C, hC⟩ : ∃ C, C = (List.range N).map fun i => Gf.nth (toN A) i ^^^ Gf.nth (toN B) i := ⟨_, rfl⟩
      have lC : C.length = N := by rw [hC]; simp
      have bA := toN_bytes A
      have bB := toN_bytes B
      have bC : Gf.Bytes C := fun x hx => by
        rw [hC] at hx
        simp only [List.mem_map, List.mem_range] at hx
        obtain ⟨i, _, rfl⟩ := hx
        exact Gf.xor_lt (bA.at_ i) (bB.at_ i)
      have nC : ∀ j, Gf.nth C j = Gf.nth (toN A) j ^^^ Gf.nth (toN B) j := fun j => by
        by_cases hj : j < N
        · rw [hC, Gf.nth_eq]; simp [hj]
        · have z1 : Gf.nth (toN A) j = 0 := by rw [Gf.nth_eq, List.getElem?_eq_none (by rw [toN_length]; omega)]; rfl
          have z2 : Gf.nth (toN B) j = 0 := by rw [Gf.nth_eq, List.getElem?_eq_none (by rw [toN_length]; omega)]; rfl
          rw [z1, z2, Gf.nth_eq, List.getElem?_eq_none (by omega)]; rfl
      have h1 := fun w => cut_any A (by omega) w
      have h2 := fun w => cut_any B (by omega) w
      have h3 := fun w => cut_any (bs C) (by rw [bs_size]; omega) w
      rw [toN_bs bC] at h3
      have hX := fun x i hi => Pa.part_xor (A := toN A) (B := toN B) (C := C) (by rw [toN_length]; omega) (by rw [toN_length]; omega) nC x (i := i) hi
      have mk := fun w => mk38 N (by omega) w
      have oC := Own.new W 5 (vs (zs N))
      have bW := (Below.refl W.heap.size W).alloc (Nat.le_refl _) (Obj.cells (vs (zs N)) 5)
      have HC := Lib.hid (And.intro hC (And.intro nC (And.intro hX hN)))
      clear hC nC hX hAB hA hN
      go_enter Try.func6, Try.ntmps6
      go_wp2_with fail
      go_loopw [28] (fun i wr => ∃ k : Nat, k ≤ N ∧ i = .int .i64 (k : Int) ∧ Own wr W.heap.size 5 (vs (fil N (fun i => Gf.nth (toN A) i ^^^ Gf.nth (toN B) i) k)) ∧ Below W.heap.size W wr) (fun i _ => N - (intOf i).toNat)
      case atStart => exact ⟨0, by omega, rfl, by rw [fil_zs]; exact oC, bW⟩
      case round =>
        clear oC bW
        obtain ⟨k, hk, rfl, oC, bW⟩ := hrel
        by_cases hkN : k < N
        · have k0 : (k : Int) < (N : Int) := by omega
          have a0 : k < A.size := by omega
          have b0 : k < B.size := by omega
          have a1 : (k : Int) < (A.size : Int) := by omega
          have b1 : (k : Int) < (B.size : Int) := by omega
          have X1 := xor8 (A[k]).toNat (B[k]).toNat (A[k]).toNat_lt (B[k]).toNat_lt
          have HE : Hid ((A[k]).toNat ^^^ (B[k]).toNat = Gf.nth (toN A) k ^^^ Gf.nth (toN B) k) := Lib.hid (by rw [toN_nth _ _ a0, toN_nth _ _ b0])
          have fC := oC.frozen k
          have cC := oC.cellb (i := k) (by rw [fil_length]; omega)
          go_wp2_with fail
          go_region
          go_wp2_with fail
          go_roundw
          case rel =>
            refine ⟨k + 1, by omega, by go_num, ?_, (bW.setCell (Nat.le_refl _) _).drew⟩
            have h := (oC.setb k (Gf.nth (toN A) k ^^^ Gf.nth (toN B) k)).drew
            rw [show (fil N (fun i => Gf.nth (toN A) i ^^^ Gf.nth (toN B) i) k).set k (Gf.nth (toN A) k ^^^ Gf.nth (toN B) k) = fil N (fun i => Gf.nth (toN A) i ^^^ Gf.nth (toN B) i) (k + 1) from fil_set _ _ _ hkN] at h
            rw [HE.out]
            exact h
          case measure => first | (simp [intOf]; done) | (simp [intOf]; omega)
        · obtain rfl : k = N := by omega
          rw [fil_all, ← HC.out.1] at oC
          have rC := oC.rg
          clear oC
          go_wp2_with fail
          replace rC := rC.drew
          replace bW := bW.drew
          refine wp_region_held_drew (S := fun w' => Below wr.drew.heap.size wr.drew w') (by kernel_rfl) (Below.refl _ _) (fun hH => ?_)
          generalize wr.drew = x0 at *
          refine tkH (v := ?_) (i := 0) rfl (by kernel_rfl) (by kernel_rfl) (by kernel_rfl) (fun _ _ _ h => h) hH (Or.inl ⟨by rfl, ?_⟩) ?_
          rotate_left
          · intro wq hq
            go_simp
            try rfl
          try simp only [Act.put, List.setIfInBounds_toArray, List.set_cons_zero, List.set_cons_succ]
          refine tkH (v := ?_) (i := 2) rfl (by kernel_rfl) (by kernel_rfl) (by kernel_rfl) (fun _ _ _ h => h) hH (Or.inl ⟨by rfl, ?_⟩) ?_
          rotate_left
          · intro wq hq
            go_simp
            try rfl
          try simp only [Act.put, List.setIfInBounds_toArray, List.set_cons_zero, List.set_cons_succ]
          refine tkH (v := ?_) (i := 4) rfl (by kernel_rfl) (by kernel_rfl) (by kernel_rfl) (fun _ _ _ h => h) hH (Or.inl ⟨by rfl, ?_⟩) ?_
          rotate_left
          · intro wq hq
            go_simp
            try rfl
          try simp only [Act.put, List.setIfInBounds_toArray, List.set_cons_zero, List.set_cons_succ]
          refine tkH (v := ?_) (i := 5) rfl (by kernel_rfl) (by kernel_rfl) (by kernel_rfl) (fun _ _ _ h => h) hH (Or.inl ⟨by rfl, ?_⟩) ?_
          rotate_left
          · intro wq hq
            have hcv := conv_bs wq W.heap.size 0 C k k lC (rC.below hq)
            go_simp
            try rfl
          try simp only [Act.put, List.setIfInBounds_toArray, List.set_cons_zero, List.set_cons_succ]
          refine efH (i := 1) rfl (by kernel_rfl) (by rfl) (fun KK hKK => ?_)
          go_simp
          refine (h1 _).mono ?_
          rintro e w7 ⟨g1, k1, rfl, _, _, _, p1, hx⟩
          have hH' := hH.trans (hx.mono hH.size)
          replace p1 := p1
          go_wp2_with fail
          refine hKK.out _ _ hH' (fun hH => ?_)
          clear hKK KK hH'
          try simp only [Act.put, List.setIfInBounds_toArray, List.set_cons_zero, List.set_cons_succ]
          refine efH (i := 3) rfl (by kernel_rfl) (by rfl) (fun KK hKK => ?_)
          go_simp
          refine (h2 _).mono ?_
          rintro e w8 ⟨g2, k2, rfl, _, _, _, p2, hx⟩
          have hH' := hH.trans (hx.mono hH.size)
          replace p1 := p1.below hx
          go_wp2_with fail
          refine hKK.out _ _ hH' (fun hH => ?_)
          clear hKK KK hH'
          try simp only [Act.put, List.setIfInBounds_toArray, List.set_cons_zero, List.set_cons_succ]
          refine efH (i := 6) rfl (by kernel_rfl) (by rfl) (fun KK hKK => ?_)
          go_simp
          refine (h3 _).mono ?_
          rintro e w9 ⟨g3, k3, rfl, _, _, _, p3, hx⟩
          have hH' := hH.trans (hx.mono hH.size)
          replace p1 := p1.below hx
          replace p2 := p2.below hx
          go_wp2_with fail
          refine hKK.out _ _ hH' (fun hH => ?_)
          clear hKK KK hH'
          try simp only [Act.put, List.setIfInBounds_toArray, List.set_cons_zero, List.set_cons_succ]
          refine tkH (v := ?_) (i := 7) rfl (by kernel_rfl) (by kernel_rfl) (by kernel_rfl) (fun _ _ _ h => h) hH (Or.inl ⟨by rfl, ?_⟩) ?_
          rotate_left
          · intro wq hq
            go_simp
            try rfl
          try simp only [Act.put, List.setIfInBounds_toArray, List.set_cons_zero, List.set_cons_succ]
          refine tkH (v := ?_) (i := 8) rfl (by kernel_rfl) (by kernel_rfl) (by kernel_rfl) (fun _ _ _ h => h) hH (Or.inl ⟨by rfl, ?_⟩) ?_
          rotate_left
          · intro wq hq
            go_simp
            try rfl
          try simp only [Act.put, List.setIfInBounds_toArray, List.set_cons_zero, List.set_cons_succ]
          refine tkH (v := ?_) (i := 9) rfl (by kernel_rfl) (by kernel_rfl) (by kernel_rfl) (fun _ _ _ h => h) hH (Or.inl ⟨by rfl, ?_⟩) ?_
          rotate_left
          · intro wq hq
            go_simp
            try rfl
          try simp only [Act.put, List.setIfInBounds_toArray, List.set_cons_zero, List.set_cons_succ]
          refine wpAnyH_done (by kernel_rfl) ?_ _
          try simp only [Act.put, List.getElem_toArray, List.getElem_cons_zero, List.getElem_cons_succ, List.setIfInBounds_toArray, List.set_cons_zero, List.set_cons_succ]
          replace bW := bW.trans (hH.mono bW.size)
          clear hx hH rC
          go_wp2_with fail
          have HP := Lib.hid (And.intro p1 (And.intro p2 p3))
          clear p1 p2 p3
          go_loopw [64] (fun i wr => ∃ p : Nat, p ≤ 5 ∧ i = .int .i64 (p : Int) ∧ Dr w9 wr) (fun i _ => 5 - (intOf i).toNat)
          case atStart => exact ⟨0, by omega, rfl, Dr.refl _⟩
          case round =>
            obtain ⟨p, hp, rfl, hd⟩ := hrel
            by_cases hlp : p < 5
            · have p0 : (p : Int) < 5 := by omega
              have ep : IntKind.i64.wrap ((p : Int) + 1) = (p : Int) + 1 := IntWalk.i64_in _ (by omega)
              have c1 := (hd.cell _).trans (HP.out.1 p _ (five_get _ hlp)).2
              have c2 := (hd.cell _).trans (HP.out.2.1 p _ (five_get _ hlp)).2
              have c3 := (hd.cell _).trans (HP.out.2.2 p _ (five_get _ hlp)).2
              have c4 := (hd.cell _).trans (HP.out.2.2 p _ (five_get _ hlp)).1
              obtain ⟨S1, hS1, z1, e1⟩ := part_text bA (p + 1)
              obtain ⟨S2, hS2, z2, e2⟩ := part_text bB (p + 1)
              obtain ⟨S3, hS3, z3, e3⟩ := part_text bC (p + 1)
              obtain ⟨m, hm⟩ : ∃ m, m = Pa.cnt C.length := ⟨_, rfl⟩
              have hX := HC.out.2.2.1 (p + 1)
              rw [← hm] at z3 hX
              rw [toN_length, hN1, ← lC, ← hm] at z1
              rw [toN_length, hN2, ← lC, ← hm] at z2
              have hmk : m ≤ 3000 := by rw [hm]; unfold Pa.cnt; omega
              simp only [← hS1, ← hS2, ← hS3, Nat.zero_add, Int.natCast_add, Int.natCast_one] at c1 c2 c3 c4
              have t1 : ((S1.size : Int) != (S3.size : Int)) = false := by rw [z1, z3]; simp
              have t2 : ((S2.size : Int) != (S3.size : Int)) = false := by rw [z2, z3]; simp
              have t3 : ((p : Int) + 1 != (p : Int) + 1) = false := by simp
              have HE := Lib.hid (And.intro z1 (And.intro z2 (And.intro z3 (And.intro e1 (And.intro e2 (And.intro e3 (And.intro hX hmk)))))))
              clear hS1 hS2 hS3 z1 z2 z3 e1 e2 e3 hm hX
              go_wp2_with fail
              go_quiet (fail)
              go_wp2_with fail
              go_loopw [111] (fun i wz => ∃ k : Nat, k ≤ S3.size ∧ i = .int .i64 (k : Int) ∧ Dr wr wz) (fun i _ => S3.size - (intOf i).toNat)
              case atStart => exact ⟨0, by omega, rfl, (Dr.refl _).drewN _⟩
              case round =>
                obtain ⟨q, hq, rfl, hd2⟩ := hrel
                have hS3 := HE.out.2.2.1
                have hS1 := HE.out.1
                have hS2 := HE.out.2.1
                have hm3 := HE.out.2.2.2.2.2.2.2
                by_cases hqS : q < S3.size
                · have q0 : (q : Int) < (S3.size : Int) := by omega
                  have q1 : (q : Int) < (S1.size : Int) := by omega
                  have q2 : (q : Int) < (S2.size : Int) := by omega
                  have n1 : q < S1.size := by omega
                  have n2 : q < S2.size := by omega
                  have eq' : IntKind.i64.wrap ((q : Int) + 1) = (q : Int) + 1 := IntWalk.i64_in _ (by omega)
                  have d1 := (hd2.cell _).trans c1
                  have d2 := (hd2.cell _).trans c2
                  have d3 := (hd2.cell _).trans c3
                  have X1 := xor8 (S1[q]).toNat (S2[q]).toNat (S1[q]).toNat_lt (S2[q]).toNat_lt
                  have hE : (S3[q]).toNat = (S1[q]).toNat ^^^ (S2[q]).toNat := by
                    rw [HE.out.2.2.2.2.2.1 q hqS, HE.out.2.2.2.1 q n1, HE.out.2.2.2.2.1 q n2]
                    exact HE.out.2.2.2.2.2.2.1 q (by omega)
                  have t4 : (((S3[q]).toNat : Int) != (((S1[q]).toNat ^^^ (S2[q]).toNat : Nat) : Int)) = false := by rw [hE]; simp
                  clear hE hS1 hS2 hS3 hm3
                  go_wp2_with fail
                  go_quiet (fail)
                  go_wp2_with fail
                  go_roundw
                  case rel => exact ⟨q + 1, by omega, by go_num, hd2.drewN _⟩
                  case measure => first | (simp [intOf]; done) | (simp [intOf]; omega)
                · have q0 : decide ((q : Int) < (S3.size : Int)) = false := by simp; omega
                  clear hS1 hS2 hS3 hm3
                  go_wp2_with fail
                  go_roundw
                  case rel => exact ⟨p + 1, by omega, by go_num, hd.trans hd2⟩
                  case measure => first | (simp [intOf]; done) | (simp [intOf]; omega)
            · obtain rfl : p = 5 := by omega
              go_wp2_with (go_at_call 9; refine (hf _).mono ?_; rintro e w11 ⟨rfl, hb9⟩)
              go_ret
              exact ⟨rfl, (below_dr bW hd).trans (hb9.mono (below_dr bW hd).size)⟩
    · have t0 : ((A.size : Int) != (B.size : Int)) = true := by rw [bne_iff_ne]; omega
      clear hAB
      go_enter Try.func6, Try.ntmps6
      go_wp2_with (go_at_call 9; refine (hf _).mono ?_; rintro e w1 ⟨rfl, hb⟩)
      go_ret
      exact ⟨rfl, hb⟩

set_option maxRecDepth 100000 in
theorem lifted (os : Os) (started : os.Started) (H : Type) (enc : TypeId × Value → H) :
    ReturnsInHanded {} Try.checked os 6 .any (Rows.parityOrSpec.pre6 enc Try.prog Try.f6 Rows.parityOrRow.domain false) (Rows.parityOrSpec.post enc Try.prog Try.f6 false true false false) := by
  refine returnsInHanded_of_change (C := Try.checked) own started (by kernel_rfl) Try.func6
    (ChangeSpec.witness6 (enc := enc) (C := Try.checked) false ⟨#[], #[.string ByteArray.empty, .string ByteArray.empty], []⟩ 8 (by kernel_rfl) (by kernel_rfl) (by kernel_rfl) (by kernel_rfl)) ?_
  intro W base args ds gs before hval0 hW hcnd _
  have hval : ∀ (j : Nat) t v, Try.f6.params[j]? = some t → args[j]? = some v → Value.okWide Try.prog W .any base t v := hval0
  have hW' := hW
  obtain ⟨p, q, hA0, hV, rfl, hfz, hnd⟩ := hW
  have hA : DataW.TrodAll enc Try.prog W 0 (fun _ => true) true Try.f6.params.toList args.toList ds p := hA0
  rw [Try.params6] at hA hval
  obtain ⟨v0, vs0, d0, ds0, p0, q0, hargs, rfl, rfl, h0, r0⟩ := trodAll_cons hA
  obtain ⟨v1, vs1, d1, ds1, p1, q1, rfl, rfl, rfl, h1, r1⟩ := trodAll_cons r0
  obtain ⟨rfl, rfl, rfl⟩ := trodAll_nil r1
  obtain rfl : args = #[v0, v1] := by cases args; simp_all
  obtain ⟨rfl, rfl⟩ := trodVars_none hV
  obtain ⟨a0, rfl, rfl, rfl, w0⟩ := open_string Try.underlying9 (hval 0 9 v0 rfl rfl) h0
  obtain ⟨a1, rfl, rfl, rfl, w1⟩ := open_string Try.underlying9 (hval 1 9 v1 rfl rfl) h1
  clear hA0 hval0
  refine (walk a0 a1 w0 w1 W).mono fun e W' ⟨he, bel⟩ => ?_
  subst he
  exact ⟨_, rfl, _, _, _, [], _, [], hW', trodAll_mk1 (shut_bool Try.underlying4 _), (trodAll_cons_mk (shut_string Try.underlying9 w0) (trodAll_cons_mk (shut_string Try.underlying9 w1) trodAll_mk0)), rfl, bel.frame _, fun h => by cases h⟩

theorem over : Rows.parityOrRow.holds Try.pinned (OpenSpec.ofChange Rows.parityOrSpec) :=
  OpenClaim.holds_of_wide 6 Try.f6 rfl rfl rfl rfl rfl rfl rfl ⟨rfl, rfl, rfl, rfl, rfl⟩ rfl rfl rfl rfl rfl (by kernel_rfl) Try.func6 (by kernel_rfl)
    (of_decide_eq_true (by kernel_rfl)) (by unfold Func.isWrapper; first | (rw [if_pos (by decide +kernel)]; kernel_rfl) | (rw [if_neg (by decide +kernel)]; exact ⟨rfl, rfl⟩))
    (fun os started H enc _ => lifted os started H enc)

/-- the statement -/
theorem proved : Rows.ParityOrSaid := over
end Go.Proofs.Ytgfnpemonpebpaa.parityOr
