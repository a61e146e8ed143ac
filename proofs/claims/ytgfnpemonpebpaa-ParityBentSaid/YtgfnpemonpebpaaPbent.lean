/-
  For every text, two bytes and place ParityBent answers true: with one byte of one part another one, three with that part tell another text, and three without it tell the text; the arguments read as before.
-/
import Derived.Test.YtgfnpemonpebpaaRows
import Derived.Test.YtgfnpemonpebpaaOk
import Derived.WalkKit
import Derived.ProofKit
import Derived.OpenShut
import Derived.ShutString
import Derived.Test.YtgfnpemonpebpaaJl
namespace Go.Proofs.Ytgfnpemonpebpaa.parityBent
open Go.ChangeShapes Go.WideShapes Go.ChangeAt Go.RowKit
open Go.ChangeMaps (open_string shut_string)
set_option linter.unusedVariables false
set_option linter.unusedSimpArgs false

theorem own : ownKnob Try.prog.godebug = none := by kernel_rfl
theorem turn5 : ∀ k, k < 5 → (1 ≤ (k + 1) % 5 + 1 ∧ (k + 1) % 5 + 1 ≤ 5 ∧ 1 ≤ (k + 2) % 5 + 1 ∧ (k + 2) % 5 + 1 ≤ 5 ∧ 1 ≤ (k + 3) % 5 + 1 ∧ (k + 3) % 5 + 1 ≤ 5 ∧ 1 ≤ (k + 4) % 5 + 1 ∧ (k + 4) % 5 + 1 ≤ 5 ∧ 1 ≤ k + 1 ∧ k + 1 ≤ 5) ∧
    ((k + 1) % 5 + 1 ≠ k + 1 ∧ (k + 1) % 5 + 1 ≠ (k + 2) % 5 + 1 ∧ k + 1 ≠ (k + 2) % 5 + 1) ∧ (k + 3) % 5 + 1 ≠ (k + 1) % 5 + 1 ∧ (k + 3) % 5 + 1 ≠ (k + 4) % 5 + 1 ∧ (k + 1) % 5 + 1 ≠ (k + 4) % 5 + 1 := by decide
set_option maxRecDepth 100000 in
set_option maxHeartbeats 4000000 in
theorem walk (D : ByteArray) (K : List Nat) (m : Nat) (wD : D.size ≤ maxLen) (bK : Gf.Bytes K) (lK : K.length = 2) (zm : m < 65536) (W : World) :
    Calls Try.prog 7 #[.string D, .agg (vs K), .int .u16 (m : Int)] W fun e w' => e = .returned (.bool true) ∧ Below W.heap.size W w' := by
  have hf := fun w => fixed_any w
  have oK := Own.new W 38 (vs K)
  have bW := (Below.refl W.heap.size W).alloc (Nat.le_refl _) (Obj.cells (vs K) 38)
  by_cases hD : 3000 < D.size
  · have d0 : 3000 < (D.size : Int) := by omega
    go_enter Try.func7, Try.ntmps7
    go_wp2_with (go_at_call 9; refine (hf _).mono ?_; rintro e w1 ⟨rfl, hb⟩)
    go_ret
    exact ⟨rfl, bW.trans (hb.mono bW.size)⟩
  · have d0 : decide (3000 < (D.size : Int)) = false := by simp; omega
    by_cases hz : D.size = 0
    · have d1 : ((D.size : Int) == 0) = true := by rw [hz]; rfl
      clear hz
      go_enter Try.func7, Try.ntmps7
      go_wp2_with (go_at_call 9; refine (hf _).mono ?_; rintro e w1 ⟨rfl, hb⟩)
      go_ret
      exact ⟨rfl, bW.trans (hb.mono bW.size)⟩
    · have d1 : ((D.size : Int) == 0) = false := by rw [beq_eq_false_iff_ne]; omega
      by_cases h3 : D.size % 3 = 0
      · have d2 : ((D.size : Int) % 3 != 0) = false := by
          have : (D.size : Int) % 3 = 0 := by omega
          rw [this]; rfl
        obtain ⟨n, hn⟩ : ∃ n, n = Pa.cnt D.size := ⟨_, rfl⟩
        have hn3 : D.size = 3 * n := by rw [hn]; unfold Pa.cnt; omega
        have hn0 : 0 < n := by omega
        have hnl : n ≤ 1000 := by omega
        have en : (D.size : Int) / 3 = (n : Int) := by omega
        obtain ⟨k, hk⟩ : ∃ k, k = Gf.nth K 0 % 5 := ⟨_, rfl⟩
        have hk5 : k < 5 := by omega
        have ek : (Gf.nth K 0 : Int) % 5 = (k : Int) := by omega
        have k0 := bK.at_ 0
        have k1 := bK.at_ 1
        have c0 := oK.cellb (i := 0) (by omega)
        have c1 := oK.cellb (i := 1) (by omega)
        have h1 := fun w => cut_any D (by omega) w
        have bL := toN_bytes D
        have lL : (toN D).length = 3 * n := by rw [toN_length]; exact hn3
        have hcL : Pa.cnt (toN D).length = n := by rw [toN_length, hn]
        obtain ⟨S, hS, zS, eS⟩ := part_text bL (k + 1)
        rw [hcL] at zS
        have t1 : ((S.size : Int) != (n : Int)) = false := by rw [zS]; simp
        have HN := Lib.hid (And.intro hn (And.intro hn3 (And.intro hk (And.intro hS (And.intro zS eS)))))
        have ik : (k : Int) < 5 := by omega
        obtain ⟨i, hi⟩ : ∃ i, i = m % n := ⟨_, rfl⟩
        have hin : i < n := by rw [hi]; exact Nat.mod_lt _ hn0
        have ei : Int.tmod (m : Int) (S.size : Int) = (i : Int) := by rw [zS, hi]; exact (Int.ofNat_tmod _ _).symm
        have ei2 : (m : Int) % (S.size : Int) = (i : Int) := by rw [zS, hi]; simp
        have wm : IntKind.i64.wrap (m : Int) = (m : Int) := IntWalk.i64_in _ (by omega)
        have iS : (i : Int) < (S.size : Int) := by omega
        have iS' : i < S.size := by omega
        have aS : ¬ S.size = 0 := by omega
        obtain ⟨d, hd⟩ : ∃ d, d = 1 + Gf.nth K 1 % 255 := ⟨_, rfl⟩
        have hd1 : 1 ≤ d := by omega
        have hd2 : d < 256 := by omega
        have ed : 1 + (Gf.nth K 1 : Int) % 255 = (d : Int) := by omega
        have ed2 : IntKind.u8.wrap (d : Int) = (d : Int) := by rw [IntKind.wrap_u8]; omega
        have X1 := xor8 (Gf.nth (toN S) i) d ((toN_bytes S).at_ i) hd2
        obtain ⟨kb, hkb⟩ : ∃ b, b = k + 1 := ⟨_, rfl⟩
        have wk1 : IntKind.i64.wrap ((k : Int) + 1) = (kb : Int) := by rw [IntWalk.i64_in _ (by omega)]; omega
        obtain ⟨i1, hi1⟩ : ∃ i, i = (k + 1) % 5 := ⟨_, rfl⟩
        obtain ⟨a1, ha1⟩ : ∃ a, a = i1 + 1 := ⟨_, rfl⟩
        have il1 : i1 < 5 := by omega
        have im1 : (i1 : Int) < 5 := by omega
        have at_a1 : (five (toN D))[i1]? = some (((a1 : Nat) : Int), bs (Pa.part (toN D) a1)) := by rw [ha1]; exact five_get _ il1
        obtain ⟨i2, hi2⟩ : ∃ i, i = (k + 2) % 5 := ⟨_, rfl⟩
        obtain ⟨a2, ha2⟩ : ∃ a, a = i2 + 1 := ⟨_, rfl⟩
        have il2 : i2 < 5 := by omega
        have im2 : (i2 : Int) < 5 := by omega
        have at_a2 : (five (toN D))[i2]? = some (((a2 : Nat) : Int), bs (Pa.part (toN D) a2)) := by rw [ha2]; exact five_get _ il2
        obtain ⟨m2, hm2⟩ : ∃ m, m = k + 2 := ⟨_, rfl⟩
        have wj2 : IntKind.i64.wrap ((k : Int) + 2) = (m2 : Int) := by rw [IntWalk.i64_in _ (by omega)]; omega
        have wr2 : (m2 : Int) % 5 = (i2 : Int) := by omega
        obtain ⟨i3, hi3⟩ : ∃ i, i = (k + 3) % 5 := ⟨_, rfl⟩
        obtain ⟨a3, ha3⟩ : ∃ a, a = i3 + 1 := ⟨_, rfl⟩
        have il3 : i3 < 5 := by omega
        have im3 : (i3 : Int) < 5 := by omega
        have at_a3 : (five (toN D))[i3]? = some (((a3 : Nat) : Int), bs (Pa.part (toN D) a3)) := by rw [ha3]; exact five_get _ il3
        obtain ⟨m3, hm3⟩ : ∃ m, m = k + 3 := ⟨_, rfl⟩
        have wj3 : IntKind.i64.wrap ((k : Int) + 3) = (m3 : Int) := by rw [IntWalk.i64_in _ (by omega)]; omega
        have wr3 : (m3 : Int) % 5 = (i3 : Int) := by omega
        obtain ⟨i4, hi4⟩ : ∃ i, i = (k + 4) % 5 := ⟨_, rfl⟩
        obtain ⟨a4, ha4⟩ : ∃ a, a = i4 + 1 := ⟨_, rfl⟩
        have il4 : i4 < 5 := by omega
        have im4 : (i4 : Int) < 5 := by omega
        have at_a4 : (five (toN D))[i4]? = some (((a4 : Nat) : Int), bs (Pa.part (toN D) a4)) := by rw [ha4]; exact five_get _ il4
        obtain ⟨m4, hm4⟩ : ∃ m, m = k + 4 := ⟨_, rfl⟩
        have wj4 : IntKind.i64.wrap ((k : Int) + 4) = (m4 : Int) := by rw [IntWalk.i64_in _ (by omega)]; omega
        have wr4 : (m4 : Int) % 5 = (i4 : Int) := by omega
        have wr1 : (kb : Int) % 5 = (i1 : Int) := by omega
        have hDs : D.size ≤ 65536 := by omega
        have TT := turn5 k hk5
        rw [← hi1, ← hi2, ← hi3, ← hi4, ← ha1, ← ha2, ← ha3, ← ha4, ← hkb] at TT
        obtain ⟨⟨T1, T2, T3, T4, T5, T6, T7, T8, T9, T10⟩, ⟨T11, T12, T13⟩, T14, T15, T16⟩ := TT
        have sL : Gf.nth (toN S) i = Gf.nth (Pa.part (toN D) kb) i := by rw [toN_nth _ _ iS', eS i iS', hkb]
        have bBt : Gf.Bytes ((toN S).set i (Gf.nth (toN S) i ^^^ d)) := fun x hx => by
          rcases List.mem_or_eq_of_mem_set hx with h | h
          · exact toN_bytes S x h
          · rw [h]; exact Gf.xor_lt ((toN_bytes S).at_ i) hd2
        have hne : Gf.nth ((toN S).set i (Gf.nth (toN S) i ^^^ d)) i ≠ Gf.nth (Pa.part (toN D) kb) i := by
          rw [Gf.nth_eq, List.getElem?_set_self (by rw [toN_length]; exact iS'), ← sL]
          intro e
          have h2 : Gf.nth (toN S) i ^^^ (Gf.nth (toN S) i ^^^ d) = Gf.nth (toN S) i ^^^ Gf.nth (toN S) i := congrArg (Gf.nth (toN S) i ^^^ ·) e
          rw [← Nat.xor_assoc, Nat.xor_self, Nat.zero_xor] at h2
          omega
        obtain ⟨X, hX, hXD⟩ := join_bent hDs hn hn3 (a := a1) (b := kb) (c := a2) T1 T2 T9 T10 T3 T4 T11 T12 T13 bBt (by rw [List.length_set, toN_length, zS]) hin hne
        have hG := join_parts (D := D) hDs hn (a := a3) (b := a1) (c := a4) T5 T6 T1 T2 T7 T8 T14 T15 T16 []
        have jb : ∀ w g, Pl w g 0 [((a1 : Int), bs (Pa.part (toN D) a1)), ((kb : Int), bs ((toN S).set i (Gf.nth (toN S) i ^^^ d))), ((a2 : Int), bs (Pa.part (toN D) a2))] → Calls Try.prog 15 #[.slice (some ⟨g, 0, none⟩) 3 3, .int .i64 (D.size : Int)] w fun e w' => e = .returned (.tuple #[.string X, .int .i64 0]) ∧ Below w.heap.size w w' := fun w g hp => by
          have h := cjoin_any (some ⟨g, 0, none⟩) 3 3 _ (D.size : Int) w rfl (by omega) (fun _ => ⟨g, 0, rfl, hp⟩) (by omega) (by omega)
          rw [hX] at h
          exact h
        have jg : ∀ w g, Pl w g 0 [((a3 : Int), bs (Pa.part (toN D) a3)), ((a1 : Int), bs (Pa.part (toN D) a1)), ((a4 : Int), bs (Pa.part (toN D) a4))] → Calls Try.prog 15 #[.slice (some ⟨g, 0, none⟩) 3 3, .int .i64 (D.size : Int)] w fun e w' => e = .returned (.tuple #[.string D, .int .i64 0]) ∧ Below w.heap.size w w' := fun w g hp => by
          have h := cjoin_any (some ⟨g, 0, none⟩) 3 3 _ (D.size : Int) w rfl (by omega) (fun _ => ⟨g, 0, rfl, hp⟩) (by omega) (by omega)
          rw [hG] at h
          exact h
        have eX : (X == D) = false := beq_no hXD
        have eX2 : (X.toList == D.toList) = false := by rw [← beq_toListBytes]; exact eX
        have HZ := Lib.hid (And.intro hkb (And.intro hXD (And.intro hX hG)))
        have wt1 : Int.tmod (kb : Int) 5 = (i1 : Int) := (Int.tmod_eq_emod_of_nonneg (Int.natCast_nonneg _)).trans wr1
        have wt2 : Int.tmod (m2 : Int) 5 = (i2 : Int) := (Int.tmod_eq_emod_of_nonneg (Int.natCast_nonneg _)).trans wr2
        have wt3 : Int.tmod (m3 : Int) 5 = (i3 : Int) := (Int.tmod_eq_emod_of_nonneg (Int.natCast_nonneg _)).trans wr3
        have wt4 : Int.tmod (m4 : Int) 5 = (i4 : Int) := (Int.tmod_eq_emod_of_nonneg (Int.natCast_nonneg _)).trans wr4
        clear T1 T2 T3 T4 T5 T6 T7 T8 T9 T10 T11 T12 T13 T14 T15 T16
        clear sL bBt hne hX hG hXD hkb hi1 ha1 hi2 ha2 hi3 ha3 hi4 ha4 hm2 hm3 hm4
        have HI := Lib.hid (And.intro hi hd)
        clear hi hd
        clear hn hn3 hk hz h3 hD hS zS eS
        go_enter Try.func7, Try.ntmps7
        go_wp2_with (go_at_call 11; refine (h1 _).mono ?_; clear h1; rintro e w1 ⟨g, cap, rfl, _, hg, _, hp, hb⟩; have cS := (hp k _ (five_get _ hk5)).2; rw [← HN.out.2.2.2.1] at cS; simp only [Nat.zero_add] at cS; obtain ⟨kc, w2, hcv, rB, fB, b2⟩ := conv_str S w1; have fBi := fB i iS'; have cBi := rB.cell (i := i) (by rw [toN_length]; exact iS'); rw [Nat.zero_add] at cBi; replace oK := oK.below hb; replace bW := bW.trans (hb.mono bW.size); have c0 := oK.cellb (i := 0) (by omega); have c1 := oK.cellb (i := 1) (by omega); have c1' := (b2.cell (p := ⟨W.heap.size, 1, none⟩) oK.lt).trans c1)
        go_region
        have rB3 := (rB.setb i (Gf.nth (toN S) i ^^^ d) (by rw [toN_length]; exact iS')).drew
        obtain ⟨Bt, hBt⟩ : ∃ Bt, Bt = (toN S).set i (Gf.nth (toN S) i ^^^ d) := ⟨_, rfl⟩
        rw [← hBt] at rB3
        have lBt : Bt.length = S.size := by rw [hBt, List.length_set, toN_length]
        have hcv3 := conv_bs _ w1.heap.size 0 Bt S.size kc lBt rB3
        have b3 : Below w1.heap.size w1 (w2.setCell ⟨w1.heap.size, i, none⟩ (.int .u8 ((Gf.nth (toN S) i ^^^ d : Nat) : Int))).drew := (b2.setCell (Nat.le_refl _) _).drew
        have p3 := hp.below b3
        have bW3 := bW.trans (b3.mono bW.size)
        rw [← hBt] at jb
        have HB := Lib.hid hBt
        clear hBt rB rB3 fB fBi cBi hcv b2 b3 hp oK c0 c1 c1' bW
        generalize (w2.setCell ⟨w1.heap.size, i, none⟩ (.int .u8 ((Gf.nth (toN S) i ^^^ d : Nat) : Int))).drew = w3 at *
        go_wp2_with fail
        have oP := Own.new w3 29 #[.int .i64 (kb : Int), .string (bs Bt)]
        have k3 : Below w3.heap.size w3 (w3.alloc (Obj.cells #[.int .i64 (kb : Int), .string (bs Bt)] 29)) := (Below.refl _ w3).alloc (Nat.le_refl _) _
        have p4 := p3.below k3
        replace bW3 := bW3.trans (k3.mono bW3.size)
        clear k3 p3
        generalize w3.alloc (Obj.cells #[.int .i64 (kb : Int), .string (bs Bt)] 29) = w4 at *
        replace p4 := p4.drew
        replace oP := oP.drew
        replace bW3 := bW3.drew
        refine wp_region_held_drew (S := fun w' => Below w4.drew.heap.size w4.drew w') (by kernel_rfl) (Below.refl _ _) (fun hH => ?_)
        generalize w4.drew = x0 at *
        refine tkH (v := ?_) (i := 0) rfl (by kernel_rfl) (by kernel_rfl) (by kernel_rfl) (fun _ _ _ h => h) hH (Or.inl ⟨by rfl, ?_⟩) ?_
        rotate_left
        · intro wq hq
          go_simp
          try rfl
        try simp only [Act.put, List.setIfInBounds_toArray, List.set_cons_zero, List.set_cons_succ]
        refine tkH (v := ?_) (i := 1) rfl (by kernel_rfl) (by kernel_rfl) (by kernel_rfl) (fun _ _ _ h => h) hH (Or.inl ⟨by rfl, ?_⟩) ?_
        rotate_left
        · intro wq hq
          go_simp
          try rfl
        try simp only [Act.put, List.setIfInBounds_toArray, List.set_cons_zero, List.set_cons_succ]
        refine tkH (v := ?_) (i := 2) rfl (by kernel_rfl) (by kernel_rfl) (by kernel_rfl) (fun _ _ _ h => h) hH (Or.inl ⟨by rfl, ?_⟩) ?_
        rotate_left
        · intro wq hq
          go_simp
          try rfl
        try simp only [Act.put, List.setIfInBounds_toArray, List.set_cons_zero, List.set_cons_succ]
        refine tkH (v := ?_) (i := 3) rfl (by kernel_rfl) (by kernel_rfl) (by kernel_rfl) (fun _ _ _ h => h) hH (Or.inl ⟨by rfl, ?_⟩) ?_
        rotate_left
        · intro wq hq
          go_simp
          try rfl
        try simp only [Act.put, List.setIfInBounds_toArray, List.set_cons_zero, List.set_cons_succ]
        refine tkH (v := ?_) (i := 4) rfl (by kernel_rfl) (by kernel_rfl) (by kernel_rfl) (fun _ _ _ h => h) hH (Or.inl ⟨by rfl, ?_⟩) ?_
        rotate_left
        · intro wq hq
          go_simp
          try rfl
        try simp only [Act.put, List.setIfInBounds_toArray, List.set_cons_zero, List.set_cons_succ]
        refine tkH (v := ?_) (i := 5) rfl (by kernel_rfl) (by kernel_rfl) (by kernel_rfl) (fun _ _ _ h => h) hH (Or.inl ⟨by rfl, ?_⟩) ?_
        rotate_left
        · intro wq hq
          obtain ⟨qa, qb⟩ := (p4.below hq) i1 (((a1 : Nat) : Int), bs (Pa.part (toN D) a1)) (at_a1)
          simp only [Nat.zero_add] at qa qb
          go_simp
          try rfl
        try simp only [Act.put, List.setIfInBounds_toArray, List.set_cons_zero, List.set_cons_succ]
        refine tkH (v := ?_) (i := 6) rfl (by kernel_rfl) (by kernel_rfl) (by kernel_rfl) (fun _ _ _ h => h) hH (Or.inl ⟨by rfl, ?_⟩) ?_
        rotate_left
        · intro wq hq
          have qa := (oP.below hq).cell 0
          have qb := (oP.below hq).cell 1
          simp only [List.getElem?_toArray, List.getElem?_cons_zero, List.getElem?_cons_succ] at qa qb
          go_simp
          try rfl
        try simp only [Act.put, List.setIfInBounds_toArray, List.set_cons_zero, List.set_cons_succ]
        refine tkH (v := ?_) (i := 7) rfl (by kernel_rfl) (by kernel_rfl) (by kernel_rfl) (fun _ _ _ h => h) hH (Or.inl ⟨by rfl, ?_⟩) ?_
        rotate_left
        · intro wq hq
          go_simp
          try rfl
        try simp only [Act.put, List.setIfInBounds_toArray, List.set_cons_zero, List.set_cons_succ]
        refine tkH (v := ?_) (i := 8) rfl (by kernel_rfl) (by kernel_rfl) (by kernel_rfl) (fun _ _ _ h => h) hH (Or.inl ⟨by rfl, ?_⟩) ?_
        rotate_left
        · intro wq hq
          go_simp
          try rfl
        try simp only [Act.put, List.setIfInBounds_toArray, List.set_cons_zero, List.set_cons_succ]
        refine tkH (v := ?_) (i := 9) rfl (by kernel_rfl) (by kernel_rfl) (by kernel_rfl) (fun _ _ _ h => h) hH (Or.inl ⟨by rfl, ?_⟩) ?_
        rotate_left
        · intro wq hq
          go_simp
          try rfl
        try simp only [Act.put, List.setIfInBounds_toArray, List.set_cons_zero, List.set_cons_succ]
        refine tkH (v := ?_) (i := 10) rfl (by kernel_rfl) (by kernel_rfl) (by kernel_rfl) (fun _ _ _ h => h) hH (Or.inl ⟨by rfl, ?_⟩) ?_
        rotate_left
        · intro wq hq
          go_simp
          try rfl
        try simp only [Act.put, List.setIfInBounds_toArray, List.set_cons_zero, List.set_cons_succ]
        refine tkH (v := ?_) (i := 11) rfl (by kernel_rfl) (by kernel_rfl) (by kernel_rfl) (fun _ _ _ h => h) hH (Or.inl ⟨by rfl, ?_⟩) ?_
        rotate_left
        · intro wq hq
          go_simp
          try rfl
        try simp only [Act.put, List.setIfInBounds_toArray, List.set_cons_zero, List.set_cons_succ]
        refine tkH (v := ?_) (i := 12) rfl (by kernel_rfl) (by kernel_rfl) (by kernel_rfl) (fun _ _ _ h => h) hH (Or.inl ⟨by rfl, ?_⟩) ?_
        rotate_left
        · intro wq hq
          obtain ⟨qa, qb⟩ := (p4.below hq) i2 (((a2 : Nat) : Int), bs (Pa.part (toN D) a2)) (at_a2)
          simp only [Nat.zero_add] at qa qb
          go_simp
          try rfl
        try simp only [Act.put, List.setIfInBounds_toArray, List.set_cons_zero, List.set_cons_succ]
        refine tkH (v := ?_) (i := 14) rfl (by kernel_rfl) (by kernel_rfl) (by kernel_rfl) (fun _ _ _ h => h) hH (Or.inl ⟨by rfl, ?_⟩) ?_
        rotate_left
        · intro wq hq
          go_simp
          try rfl
        try simp only [Act.put, List.setIfInBounds_toArray, List.set_cons_zero, List.set_cons_succ]
        refine tkH (v := ?_) (i := 15) rfl (by kernel_rfl) (by kernel_rfl) (by kernel_rfl) (fun _ _ _ h => h) hH (Or.inl ⟨by rfl, ?_⟩) ?_
        rotate_left
        · intro wq hq
          go_simp
          try rfl
        try simp only [Act.put, List.setIfInBounds_toArray, List.set_cons_zero, List.set_cons_succ]
        refine efH (i := 13) rfl (by kernel_rfl) (by rfl) (fun KK hKK => ?_)
        go_simp
        refine hKK.out _ _ (hH.alloc hH.size _) (fun hH => ?_)
        clear hKK KK
        try simp only [Act.put, List.setIfInBounds_toArray, List.set_cons_zero, List.set_cons_succ]
        refine efH (i := 16) rfl (by kernel_rfl) (by rfl) (fun KK hKK => ?_)
        go_simp
        refine (jb _ _ (pl_new3 _ _ _ _)).mono ?_
        rintro e w6 ⟨rfl, hx⟩
        have hH' := hH.trans (hx.mono hH.size)
        go_wp2_with fail
        refine hKK.out _ _ hH' (fun hH => ?_)
        clear hKK KK hH'
        try simp only [Act.put, List.setIfInBounds_toArray, List.set_cons_zero, List.set_cons_succ]
        refine tkH (v := ?_) (i := 17) rfl (by kernel_rfl) (by kernel_rfl) (by kernel_rfl) (fun _ _ _ h => h) hH (Or.inl ⟨by rfl, ?_⟩) ?_
        rotate_left
        · intro wq hq
          go_simp
          try rfl
        try simp only [Act.put, List.setIfInBounds_toArray, List.set_cons_zero, List.set_cons_succ]
        refine tkH (v := ?_) (i := 18) rfl (by kernel_rfl) (by kernel_rfl) (by kernel_rfl) (fun _ _ _ h => h) hH (Or.inl ⟨by rfl, ?_⟩) ?_
        rotate_left
        · intro wq hq
          go_simp
          try rfl
        try simp only [Act.put, List.setIfInBounds_toArray, List.set_cons_zero, List.set_cons_succ]
        refine tkH (v := ?_) (i := 19) rfl (by kernel_rfl) (by kernel_rfl) (by kernel_rfl) (fun _ _ _ h => h) hH (Or.inl ⟨by rfl, ?_⟩) ?_
        rotate_left
        · intro wq hq
          go_simp
          try rfl
        try simp only [Act.put, List.setIfInBounds_toArray, List.set_cons_zero, List.set_cons_succ]
        refine tkH (v := ?_) (i := 20) rfl (by kernel_rfl) (by kernel_rfl) (by kernel_rfl) (fun _ _ _ h => h) hH (Or.inl ⟨by rfl, ?_⟩) ?_
        rotate_left
        · intro wq hq
          go_simp
          try rfl
        try simp only [Act.put, List.setIfInBounds_toArray, List.set_cons_zero, List.set_cons_succ]
        refine tkH (v := ?_) (i := 21) rfl (by kernel_rfl) (by kernel_rfl) (by kernel_rfl) (fun _ _ _ h => h) hH (Or.inl ⟨by rfl, ?_⟩) ?_
        rotate_left
        · intro wq hq
          go_simp
          try rfl
        try simp only [Act.put, List.setIfInBounds_toArray, List.set_cons_zero, List.set_cons_succ]
        refine wpAnyH_done (by kernel_rfl) ?_ _
        try simp only [Act.put, List.getElem_toArray, List.getElem_cons_zero, List.getElem_cons_succ, List.setIfInBounds_toArray, List.set_cons_zero, List.set_cons_succ]
        replace bW3 := bW3.trans (hH.mono bW3.size)
        replace p4 := p4.below hH
        clear hx hH oP
        go_wp2_with fail
        replace p4 := p4.drew
        replace bW3 := bW3.drew
        refine wp_region_held_drew (S := fun w' => Below w6.drew.heap.size w6.drew w') (by kernel_rfl) (Below.refl _ _) (fun hH => ?_)
        generalize w6.drew = x2 at *
        refine tkH (v := ?_) (i := 0) rfl (by kernel_rfl) (by kernel_rfl) (by kernel_rfl) (fun _ _ _ h => h) hH (Or.inl ⟨by rfl, ?_⟩) ?_
        rotate_left
        · intro wq hq
          go_simp
          try rfl
        try simp only [Act.put, List.setIfInBounds_toArray, List.set_cons_zero, List.set_cons_succ]
        refine tkH (v := ?_) (i := 1) rfl (by kernel_rfl) (by kernel_rfl) (by kernel_rfl) (fun _ _ _ h => h) hH (Or.inl ⟨by rfl, ?_⟩) ?_
        rotate_left
        · intro wq hq
          go_simp
          try rfl
        try simp only [Act.put, List.setIfInBounds_toArray, List.set_cons_zero, List.set_cons_succ]
        refine tkH (v := ?_) (i := 2) rfl (by kernel_rfl) (by kernel_rfl) (by kernel_rfl) (fun _ _ _ h => h) hH (Or.inl ⟨by rfl, ?_⟩) ?_
        rotate_left
        · intro wq hq
          go_simp
          try rfl
        try simp only [Act.put, List.setIfInBounds_toArray, List.set_cons_zero, List.set_cons_succ]
        refine tkH (v := ?_) (i := 3) rfl (by kernel_rfl) (by kernel_rfl) (by kernel_rfl) (fun _ _ _ h => h) hH (Or.inl ⟨by rfl, ?_⟩) ?_
        rotate_left
        · intro wq hq
          go_simp
          try rfl
        try simp only [Act.put, List.setIfInBounds_toArray, List.set_cons_zero, List.set_cons_succ]
        refine tkH (v := ?_) (i := 4) rfl (by kernel_rfl) (by kernel_rfl) (by kernel_rfl) (fun _ _ _ h => h) hH (Or.inl ⟨by rfl, ?_⟩) ?_
        rotate_left
        · intro wq hq
          go_simp
          try rfl
        try simp only [Act.put, List.setIfInBounds_toArray, List.set_cons_zero, List.set_cons_succ]
        refine tkH (v := ?_) (i := 5) rfl (by kernel_rfl) (by kernel_rfl) (by kernel_rfl) (fun _ _ _ h => h) hH (Or.inl ⟨by rfl, ?_⟩) ?_
        rotate_left
        · intro wq hq
          obtain ⟨qa, qb⟩ := (p4.below hq) i3 (((a3 : Nat) : Int), bs (Pa.part (toN D) a3)) (at_a3)
          simp only [Nat.zero_add] at qa qb
          go_simp
          try rfl
        try simp only [Act.put, List.setIfInBounds_toArray, List.set_cons_zero, List.set_cons_succ]
        refine tkH (v := ?_) (i := 6) rfl (by kernel_rfl) (by kernel_rfl) (by kernel_rfl) (fun _ _ _ h => h) hH (Or.inl ⟨by rfl, ?_⟩) ?_
        rotate_left
        · intro wq hq
          go_simp
          try rfl
        try simp only [Act.put, List.setIfInBounds_toArray, List.set_cons_zero, List.set_cons_succ]
        refine tkH (v := ?_) (i := 7) rfl (by kernel_rfl) (by kernel_rfl) (by kernel_rfl) (fun _ _ _ h => h) hH (Or.inl ⟨by rfl, ?_⟩) ?_
        rotate_left
        · intro wq hq
          go_simp
          try rfl
        try simp only [Act.put, List.setIfInBounds_toArray, List.set_cons_zero, List.set_cons_succ]
        refine tkH (v := ?_) (i := 8) rfl (by kernel_rfl) (by kernel_rfl) (by kernel_rfl) (fun _ _ _ h => h) hH (Or.inl ⟨by rfl, ?_⟩) ?_
        rotate_left
        · intro wq hq
          go_simp
          try rfl
        try simp only [Act.put, List.setIfInBounds_toArray, List.set_cons_zero, List.set_cons_succ]
        refine tkH (v := ?_) (i := 9) rfl (by kernel_rfl) (by kernel_rfl) (by kernel_rfl) (fun _ _ _ h => h) hH (Or.inl ⟨by rfl, ?_⟩) ?_
        rotate_left
        · intro wq hq
          go_simp
          try rfl
        try simp only [Act.put, List.setIfInBounds_toArray, List.set_cons_zero, List.set_cons_succ]
        refine tkH (v := ?_) (i := 10) rfl (by kernel_rfl) (by kernel_rfl) (by kernel_rfl) (fun _ _ _ h => h) hH (Or.inl ⟨by rfl, ?_⟩) ?_
        rotate_left
        · intro wq hq
          go_simp
          try rfl
        try simp only [Act.put, List.setIfInBounds_toArray, List.set_cons_zero, List.set_cons_succ]
        refine tkH (v := ?_) (i := 11) rfl (by kernel_rfl) (by kernel_rfl) (by kernel_rfl) (fun _ _ _ h => h) hH (Or.inl ⟨by rfl, ?_⟩) ?_
        rotate_left
        · intro wq hq
          obtain ⟨qa, qb⟩ := (p4.below hq) i1 (((a1 : Nat) : Int), bs (Pa.part (toN D) a1)) (at_a1)
          simp only [Nat.zero_add] at qa qb
          go_simp
          try rfl
        try simp only [Act.put, List.setIfInBounds_toArray, List.set_cons_zero, List.set_cons_succ]
        refine tkH (v := ?_) (i := 12) rfl (by kernel_rfl) (by kernel_rfl) (by kernel_rfl) (fun _ _ _ h => h) hH (Or.inl ⟨by rfl, ?_⟩) ?_
        rotate_left
        · intro wq hq
          go_simp
          try rfl
        try simp only [Act.put, List.setIfInBounds_toArray, List.set_cons_zero, List.set_cons_succ]
        refine tkH (v := ?_) (i := 13) rfl (by kernel_rfl) (by kernel_rfl) (by kernel_rfl) (fun _ _ _ h => h) hH (Or.inl ⟨by rfl, ?_⟩) ?_
        rotate_left
        · intro wq hq
          go_simp
          try rfl
        try simp only [Act.put, List.setIfInBounds_toArray, List.set_cons_zero, List.set_cons_succ]
        refine tkH (v := ?_) (i := 14) rfl (by kernel_rfl) (by kernel_rfl) (by kernel_rfl) (fun _ _ _ h => h) hH (Or.inl ⟨by rfl, ?_⟩) ?_
        rotate_left
        · intro wq hq
          go_simp
          try rfl
        try simp only [Act.put, List.setIfInBounds_toArray, List.set_cons_zero, List.set_cons_succ]
        refine tkH (v := ?_) (i := 15) rfl (by kernel_rfl) (by kernel_rfl) (by kernel_rfl) (fun _ _ _ h => h) hH (Or.inl ⟨by rfl, ?_⟩) ?_
        rotate_left
        · intro wq hq
          go_simp
          try rfl
        try simp only [Act.put, List.setIfInBounds_toArray, List.set_cons_zero, List.set_cons_succ]
        refine tkH (v := ?_) (i := 16) rfl (by kernel_rfl) (by kernel_rfl) (by kernel_rfl) (fun _ _ _ h => h) hH (Or.inl ⟨by rfl, ?_⟩) ?_
        rotate_left
        · intro wq hq
          go_simp
          try rfl
        try simp only [Act.put, List.setIfInBounds_toArray, List.set_cons_zero, List.set_cons_succ]
        refine tkH (v := ?_) (i := 17) rfl (by kernel_rfl) (by kernel_rfl) (by kernel_rfl) (fun _ _ _ h => h) hH (Or.inl ⟨by rfl, ?_⟩) ?_
        rotate_left
        · intro wq hq
          obtain ⟨qa, qb⟩ := (p4.below hq) i4 (((a4 : Nat) : Int), bs (Pa.part (toN D) a4)) (at_a4)
          simp only [Nat.zero_add] at qa qb
          go_simp
          try rfl
        try simp only [Act.put, List.setIfInBounds_toArray, List.set_cons_zero, List.set_cons_succ]
        refine tkH (v := ?_) (i := 19) rfl (by kernel_rfl) (by kernel_rfl) (by kernel_rfl) (fun _ _ _ h => h) hH (Or.inl ⟨by rfl, ?_⟩) ?_
        rotate_left
        · intro wq hq
          go_simp
          try rfl
        try simp only [Act.put, List.setIfInBounds_toArray, List.set_cons_zero, List.set_cons_succ]
        refine tkH (v := ?_) (i := 20) rfl (by kernel_rfl) (by kernel_rfl) (by kernel_rfl) (fun _ _ _ h => h) hH (Or.inl ⟨by rfl, ?_⟩) ?_
        rotate_left
        · intro wq hq
          go_simp
          try rfl
        try simp only [Act.put, List.setIfInBounds_toArray, List.set_cons_zero, List.set_cons_succ]
        refine efH (i := 18) rfl (by kernel_rfl) (by rfl) (fun KK hKK => ?_)
        go_simp
        refine hKK.out _ _ (hH.alloc hH.size _) (fun hH => ?_)
        clear hKK KK
        try simp only [Act.put, List.setIfInBounds_toArray, List.set_cons_zero, List.set_cons_succ]
        refine efH (i := 21) rfl (by kernel_rfl) (by rfl) (fun KK hKK => ?_)
        go_simp
        refine (jg _ _ (pl_new3 _ _ _ _)).mono ?_
        rintro e w8 ⟨rfl, hx⟩
        have hH' := hH.trans (hx.mono hH.size)
        go_wp2_with fail
        refine hKK.out _ _ hH' (fun hH => ?_)
        clear hKK KK hH'
        try simp only [Act.put, List.setIfInBounds_toArray, List.set_cons_zero, List.set_cons_succ]
        refine tkH (v := ?_) (i := 22) rfl (by kernel_rfl) (by kernel_rfl) (by kernel_rfl) (fun _ _ _ h => h) hH (Or.inl ⟨by rfl, ?_⟩) ?_
        rotate_left
        · intro wq hq
          go_simp
          try rfl
        try simp only [Act.put, List.setIfInBounds_toArray, List.set_cons_zero, List.set_cons_succ]
        refine tkH (v := ?_) (i := 23) rfl (by kernel_rfl) (by kernel_rfl) (by kernel_rfl) (fun _ _ _ h => h) hH (Or.inl ⟨by rfl, ?_⟩) ?_
        rotate_left
        · intro wq hq
          go_simp
          try rfl
        try simp only [Act.put, List.setIfInBounds_toArray, List.set_cons_zero, List.set_cons_succ]
        refine tkH (v := ?_) (i := 24) rfl (by kernel_rfl) (by kernel_rfl) (by kernel_rfl) (fun _ _ _ h => h) hH (Or.inl ⟨by rfl, ?_⟩) ?_
        rotate_left
        · intro wq hq
          go_simp
          try rfl
        try simp only [Act.put, List.setIfInBounds_toArray, List.set_cons_zero, List.set_cons_succ]
        refine tkH (v := ?_) (i := 25) rfl (by kernel_rfl) (by kernel_rfl) (by kernel_rfl) (fun _ _ _ h => h) hH (Or.inl ⟨by rfl, ?_⟩) ?_
        rotate_left
        · intro wq hq
          go_simp
          try rfl
        try simp only [Act.put, List.setIfInBounds_toArray, List.set_cons_zero, List.set_cons_succ]
        refine tkH (v := ?_) (i := 26) rfl (by kernel_rfl) (by kernel_rfl) (by kernel_rfl) (fun _ _ _ h => h) hH (Or.inl ⟨by rfl, ?_⟩) ?_
        rotate_left
        · intro wq hq
          go_simp
          try rfl
        try simp only [Act.put, List.setIfInBounds_toArray, List.set_cons_zero, List.set_cons_succ]
        refine wpAnyH_done (by kernel_rfl) ?_ _
        try simp only [Act.put, List.getElem_toArray, List.getElem_cons_zero, List.getElem_cons_succ, List.setIfInBounds_toArray, List.set_cons_zero, List.set_cons_succ]
        replace bW3 := bW3.trans (hH.mono bW3.size)
        clear hx hH p4
        go_wp2_with (go_at_call 9; refine (hf _).mono ?_; rintro e w9 ⟨rfl, hb9⟩)
        go_ret
        exact ⟨rfl, bW3.trans (hb9.mono bW3.size)⟩
      · have d2 : ((D.size : Int) % 3 != 0) = true := by rw [bne_iff_ne]; omega
        clear h3
        go_enter Try.func7, Try.ntmps7
        go_wp2_with (go_at_call 9; refine (hf _).mono ?_; rintro e w1 ⟨rfl, hb⟩)
        go_ret
        exact ⟨rfl, bW.trans (hb.mono bW.size)⟩

set_option maxRecDepth 100000 in
theorem lifted (os : Os) (started : os.Started) (H : Type) (enc : TypeId × Value → H) :
    ReturnsInHanded {} Try.checked os 7 .any (Rows.parityBentSpec.pre6 enc Try.prog Try.f7 Rows.parityBentRow.domain false) (Rows.parityBentSpec.post enc Try.prog Try.f7 false true false false) := by
  refine returnsInHanded_of_change (C := Try.checked) own started (by kernel_rfl) Try.func7
    (ChangeSpec.witness6 (enc := enc) (C := Try.checked) false ⟨#[], #[.string ByteArray.empty, .agg (Array.replicate 2 (.int .u8 0)), .int .u16 0], []⟩ 8 (by kernel_rfl) (by kernel_rfl) (by kernel_rfl) (by kernel_rfl)) ?_
  intro W base args ds gs before hval0 hW hcnd _
  have hval : ∀ (j : Nat) t v, Try.f7.params[j]? = some t → args[j]? = some v → Value.okWide Try.prog W .any base t v := hval0
  have hW' := hW
  obtain ⟨p, q, hA0, hV, rfl, hfz, hnd⟩ := hW
  have hA : DataW.TrodAll enc Try.prog W 0 (fun _ => true) true Try.f7.params.toList args.toList ds p := hA0
  rw [Try.params7] at hA hval
  obtain ⟨v0, vs0, d0, ds0, p0, q0, hargs, rfl, rfl, h0, r0⟩ := trodAll_cons hA
  obtain ⟨v1, vs1, d1, ds1, p1, q1, rfl, rfl, rfl, h1, r1⟩ := trodAll_cons r0
  obtain ⟨v2, vs2, d2, ds2, p2, q2, rfl, rfl, rfl, h2, r2⟩ := trodAll_cons r1
  obtain ⟨rfl, rfl, rfl⟩ := trodAll_nil r2
  obtain rfl : args = #[v0, v1, v2] := by cases args; simp_all
  obtain ⟨rfl, rfl⟩ := trodVars_none hV
  obtain ⟨a0, rfl, rfl, rfl, w0⟩ := open_string Try.underlying9 (hval 0 9 v0 rfl rfl) h0
  obtain ⟨K1, rfl, l1, b1⟩ := okTwo (hval 1 38 v1 rfl rfl)
  have k1 := h1
  have lt1 : ∀ x ∈ p1, x.block < W.heap.size := by obtain ⟨m, hm⟩ := k1; exact DataW.trod_lt m _ _ _ hm
  obtain ⟨n2, rfl, rfl, rfl, w2⟩ := open_int Try.underlying39 (hval 2 39 v2 rfl rfl) h2
  obtain ⟨m2, rfl, z2⟩ := nat_u16 w2
  clear hA0 hval0
  refine (walk a0 K1 m2 w0 b1 l1 z2 W).mono fun e W' ⟨he, bel⟩ => ?_
  subst he
  exact ⟨_, rfl, _, _, _, [], _, [], hW', trodAll_mk1 (shut_bool Try.underlying4 _), (trodAll_cons_mk (shut_string Try.underlying9 w0) (trodAll_cons_mk (Below.trod laidOut (by kernel_rfl) (of_decide_eq_true (by kernel_rfl)) k1 bel lt1) (trodAll_cons_mk (shut_int Try.underlying39 w2) trodAll_mk0))), rfl, bel.frame _, fun h => by cases h⟩

theorem over : Rows.parityBentRow.holds Try.pinned (OpenSpec.ofChange Rows.parityBentSpec) :=
  OpenClaim.holds_of_wide 7 Try.f7 rfl rfl rfl rfl rfl rfl rfl ⟨rfl, rfl, rfl, rfl, rfl⟩ rfl rfl rfl rfl rfl (by kernel_rfl) Try.func7 (by kernel_rfl)
    (of_decide_eq_true (by kernel_rfl)) (by unfold Func.isWrapper; first | (rw [if_pos (by decide +kernel)]; kernel_rfl) | (rw [if_neg (by decide +kernel)]; exact ⟨rfl, rfl⟩))
    (fun os started H enc _ => lifted os started H enc)

/-- the statement -/
theorem proved : Rows.ParityBentSaid := over
end Go.Proofs.Ytgfnpemonpebpaa.parityBent
