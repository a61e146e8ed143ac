/-
  For every two secrets and two noises ShareSums answers true: the shares of both, made one, are those of the secrets made one; the arguments read as before.
-/
import Derived.Test.YtmnenjgipkopdaaRows
import Derived.Test.YtmnenjgipkopdaaOk
import Derived.WalkKit
import Derived.ProofKit
import Derived.OpenShut
import Derived.ShutString
namespace Go.Proofs.Ytmnenjgipkopdaa.shareSums
open Go.ChangeShapes Go.WideShapes Go.ChangeAt Go.RowKit
open Go.ChangeMaps (open_string shut_string)
set_option linter.unusedVariables false
set_option linter.unusedSimpArgs false

theorem own : ownKnob Try.prog.godebug = none := by kernel_rfl
theorem filr_set (F : Nat → Nat) (k : Nat) : (fil 32 F k).set (k % 32) (F (k % 32)) = fil 32 F (k + 1) := by
  apply List.ext_getElem?
  intro i
  rw [List.getElem?_set]
  by_cases hi : i < 32
  · by_cases hik : k % 32 = i
    · subst hik; simp [fil, hi, show k % 32 < k + 1 by omega]
    · rw [if_neg hik]
      simp only [fil, List.getElem?_map, List.getElem?_range hi, Option.map_some, Option.some.injEq]
      by_cases h : i < k
      · rw [if_pos h, if_pos (by omega)]
      · rw [if_neg h, if_neg (by omega)]
  · rw [if_neg (by omega), List.getElem?_eq_none (by rw [fil_length]; omega), List.getElem?_eq_none (by rw [fil_length]; omega)]
theorem fil_bytes {n : Nat} {F : Nat → Nat} (h : ∀ i, F i < 256) (k : Nat) : Gf.Bytes (fil n F k) := fun y hy => by
  obtain ⟨i, _, rfl⟩ := List.mem_map.1 hy
  split
  · exact h i
  · omega
theorem nth_fil {n : Nat} {F : Nat → Nat} {i k : Nat} (hi : i < n) (hk : i < k) : Gf.nth (fil n F k) i = F i := by
  rw [Gf.nth_eq]; simp [fil, hi, hk]
theorem z36 : ZT 36 64 := fun w => by kernel_rfl
theorem nthL_shrs (K M : List Nat) (n i : Nat) (h : i < n) : nthL (Sx.shrs K M n) i = Sx.shr K M (i + 1) := by unfold nthL; rw [Sx.shrs_get _ _ _ _ h]; rfl
theorem byte_at {w : World} {b o : Nat} {K M : List Nat} (hr : Rg w b o (Sx.shrs K M 5).flatten) {i k : Nat} (hi : i < 5) (hk : k < 32) : w.cell? ⟨b, o + i * 33 + 1 + k, none⟩ = some (.int .u8 (Gf.ev [Gf.nth K k, Gf.nth M k, Gf.nth M (32 + k)] (i + 1) : Nat)) := by
  have h := (rg_at (n := 5) (shrs_33 K M 5) hr (i := i) (by rw [Sx.shrs_length]; exact hi)).cell (i := 1 + k) (by rw [nthL_shrs _ _ _ _ hi, Sx.shr_length]; omega)
  rw [nthL_shrs _ _ _ _ hi, Sx.shr_at _ _ _ hk, ← Nat.add_assoc] at h
  exact h
set_option maxRecDepth 100000 in
set_option maxHeartbeats 4000000 in
theorem walk (K T A B : List Nat) (hK : Gf.Bytes K) (lK : K.length = 32) (hT : Gf.Bytes T) (lT : T.length = 32) (hA : Gf.Bytes A) (lA : A.length = 64) (hB : Gf.Bytes B) (lB : B.length = 64) (W : World) :
    Calls Try.prog 8 #[.agg (vs K), .agg (vs T), .agg (vs A), .agg (vs B)] W fun e w' => e = .returned (.bool true) ∧ Below W.heap.size W w' := by
  have HK := Lib.hid (And.intro hK lK)
  have HT := Lib.hid (And.intro hT lT)
  have HA := Lib.hid (And.intro hA lA)
  have HB := Lib.hid (And.intro hB lB)
  have sA : (bs A).size = 64 := by rw [bs_size, lA]
  have sB : (bs B).size = 64 := by rw [bs_size, lB]
  clear hK lK hT lT hA lA hB lB
  have z1 : (W.alloc (Obj.cells (vs K) 23)).heap.size = W.heap.size + 1 := Array.size_push ..
  have z2 : ((W.alloc (Obj.cells (vs K) 23)).alloc (Obj.cells (vs T) 23)).heap.size = W.heap.size + 1 + 1 := by rw [← z1]; exact Array.size_push ..
  have z3 : (((W.alloc (Obj.cells (vs K) 23)).alloc (Obj.cells (vs T) 23)).alloc (Obj.cells (vs A) 36)).heap.size = W.heap.size + 1 + 1 + 1 := by rw [← z2]; exact Array.size_push ..
  have z4 : ((((W.alloc (Obj.cells (vs K) 23)).alloc (Obj.cells (vs T) 23)).alloc (Obj.cells (vs A) 36)).alloc (Obj.cells (vs B) 36)).heap.size = W.heap.size + 1 + 1 + 1 + 1 := by rw [← z3]; exact Array.size_push ..
  have o0 := (((Own.new W 23 (vs K)).alloc (Obj.cells (vs T) 23)).alloc (Obj.cells (vs A) 36)).alloc (Obj.cells (vs B) 36)
  have o1 := ((Own.new' (W.alloc (Obj.cells (vs K) 23)) 23 (vs T) z1.symm).alloc (Obj.cells (vs A) 36)).alloc (Obj.cells (vs B) 36)
  have o2 := (Own.new' ((W.alloc (Obj.cells (vs K) 23)).alloc (Obj.cells (vs T) 23)) 36 (vs A) z2.symm).alloc (Obj.cells (vs B) 36)
  have o3 := Own.new' (((W.alloc (Obj.cells (vs K) 23)).alloc (Obj.cells (vs T) 23)).alloc (Obj.cells (vs A) 36)) 36 (vs B) z3.symm
  have bW := ((((Below.refl W.heap.size W).alloc (Nat.le_refl _) (Obj.cells (vs K) 23)).alloc (by omega) (Obj.cells (vs T) 23)).alloc (by omega) (Obj.cells (vs A) 36)).alloc (by omega) (Obj.cells (vs B) 36)
  have hal := alive_any ((((W.alloc (Obj.cells (vs K) 23)).alloc (Obj.cells (vs T) 23)).alloc (Obj.cells (vs A) 36)).alloc (Obj.cells (vs B) 36))
  have HZ := Lib.hid z4
  clear z1 z2 z3 z4
  go_enter Try.func8, Try.ntmps8
  go_wp2_with fail
  generalize hg : W.heap.size = g at *
  have HG := Lib.hid hg
  clear hg
  refine hal.mono ?_
  rintro e w1 ⟨rfl, hb⟩
  replace bW := bW.trans (hb.mono (by rw [HZ.out]; omega))
  replace o0 := o0.below hb
  replace o1 := o1.below hb
  replace o2 := o2.below hb
  replace o3 := o3.below hb
  clear hal hb HZ
  generalize hG : w1.heap.size = G at *
  have gG : g + 4 ≤ G := by have := o3.lt; omega
  have z5 : (w1.alloc (Obj.cells (vs (zs 32)) 23)).heap.size = G + 1 := by rw [← hG]; exact Array.size_push ..
  have oU := ((Own.new' w1 23 (vs (zs 32)) hG.symm).alloc (Obj.cells (vs (zs 64)) 36))
  have oC := Own.new' (w1.alloc (Obj.cells (vs (zs 32)) 23)) 36 (vs (zs 64)) z5.symm
  replace bW := (bW.alloc (by omega) (Obj.cells (vs (zs 32)) 23)).alloc (by omega) (Obj.cells (vs (zs 64)) 36)
  replace o0 := (o0.alloc (Obj.cells (vs (zs 32)) 23)).alloc (Obj.cells (vs (zs 64)) 36)
  replace o1 := (o1.alloc (Obj.cells (vs (zs 32)) 23)).alloc (Obj.cells (vs (zs 64)) 36)
  replace o2 := (o2.alloc (Obj.cells (vs (zs 32)) 23)).alloc (Obj.cells (vs (zs 64)) 36)
  replace o3 := (o3.alloc (Obj.cells (vs (zs 32)) 23)).alloc (Obj.cells (vs (zs 64)) 36)
  go_wp2_with (first | (refine alz z23 rfl rfl ?_) | (refine alz z36 rfl rfl ?_))
  generalize hw2 : (w1.alloc (Obj.cells (vs (zs 32)) 23)).alloc (Obj.cells (vs (zs 64)) 36) = w2 at *
  have HW2 := Lib.hid (And.intro hw2 (And.intro hG z5))
  clear hw2 hG z5
  rw [show zs 32 = fil 32 (fun i => Gf.nth K i ^^^ Gf.nth T i) 0 from by rw [fil_zero]; rfl] at oU
  rw [show zs 64 = fil 64 (fun i => Gf.nth A i ^^^ Gf.nth B i) 0 from by rw [fil_zero]; rfl] at oC
  have bU : ∀ i, (fun i => Gf.nth K i ^^^ Gf.nth T i) i < 256 := fun i => Gf.xor_lt (HK.out.1.at_ i) (HT.out.1.at_ i)
  have bC : ∀ i, (fun i => Gf.nth A i ^^^ Gf.nth B i) i < 256 := fun i => Gf.xor_lt (HA.out.1.at_ i) (HB.out.1.at_ i)
  generalize hFU : (fun i => Gf.nth K i ^^^ Gf.nth T i) = FU at *
  generalize hFC : (fun i => Gf.nth A i ^^^ Gf.nth B i) = FC at *
  have HF := Lib.hid (And.intro hFU hFC)
  have HbU := Lib.hid (And.intro bU bC)
  clear hFU hFC bU bC
  go_loopw [11] (fun i wr => ∃ k : Nat, k ≤ 64 ∧ i = .int .i64 k ∧ Own wr G 23 (vs (fil 32 FU k)) ∧ Own wr (G + 1) 36 (vs (fil 64 FC k)) ∧ Below G w2 wr) (fun i _ => 64 - (intOf i).toNat)
  case atStart => exact ⟨0, by omega, rfl, oU, oC, Below.refl _ _⟩
  case round =>
    clear oU oC
    obtain ⟨k, hk, rfl, oU, oC, hb⟩ := hrel
    generalize wr = wo at *
    replace o0 := o0.belowB hb (by omega)
    replace o1 := o1.belowB hb (by omega)
    replace o2 := o2.belowB hb (by omega)
    replace o3 := o3.belowB hb (by omega)
    by_cases hlt : k < 64
    · have i0 : (k : Int) < 64 := by omega
      have ca := o2.drew.cellb (i := k) (by rw [HA.out.2]; exact hlt)
      have cb := o3.drew.cellb (i := k) (by rw [HB.out.2]; exact hlt)
      have fc := oC.drew.frozen k
      have cc := oC.drew.cellb (i := k) (by rw [fil_length]; exact hlt)
      have X1 := xor8 (Gf.nth A k) (Gf.nth B k) (HA.out.1.at_ k) (HB.out.1.at_ k)
      have e1 : Gf.nth A k ^^^ Gf.nth B k = FC k := by rw [← HF.out.2]
      rw [e1] at X1
      have HE := Lib.hid e1
      clear e1
      go_wp2_with fail
      refine wp_region_still_tail 9 (by kernel_rfl) (by kernel_rfl) ?_
      simp only [List.take_succ_cons, List.take_zero, List.drop_succ_cons, List.drop_zero]
      have hb1 := hb.drew
      have oU1 := oU.drew
      have oC1 := oC.drew
      have o01 := o0.drew
      have o11 := o1.drew
      change wpStill _ _ wo.drew (fun a' => wpList _ _ _ _ a' wo.drew) _ _
      generalize wo.drew = w3 at *
      repeat still_step
      refine wpStill_nil ?_
      change wpList _ _ _ _ _ w3
      go_wp2_with fail
      have oC2 := oC1.setb k (FC k)
      rw [fil_set _ _ _ hlt] at oC2
      replace oU1 := oU1.other ⟨G + 1, k, none⟩ (.int .u8 (FC k : Nat)) (by show G ≠ G + 1; omega)
      replace o01 := o01.other ⟨G + 1, k, none⟩ (.int .u8 (FC k : Nat)) (by show g ≠ G + 1; omega)
      replace o11 := o11.other ⟨G + 1, k, none⟩ (.int .u8 (FC k : Nat)) (by show g + 1 ≠ G + 1; omega)
      replace hb1 := hb1.setCell (p := ⟨G + 1, k, none⟩) (by show G ≤ G + 1; omega) (.int .u8 (FC k : Nat))
      clear X1 ca cb fc cc oU oC oC1 o0 o1 o2 o3 hb
      generalize w3.setCell ⟨G + 1, k, none⟩ (.int .u8 (FC k : Nat)) = w4 at *
      obtain ⟨q, hq⟩ : ∃ q, q = k % 32 := ⟨_, rfl⟩
      have lq : q < 32 := by omega
      have iq : (q : Int) < 32 := by omega
      have eq : (k : Int) % 32 = (q : Int) := by omega
      have et : Int.tmod (k : Int) 32 = (q : Int) := by rw [Int.tmod_eq_emod_of_nonneg (by omega)]; exact eq
      have ca := o01.drew.cellb (i := q) (by rw [HK.out.2]; exact lq)
      have cb := o11.drew.cellb (i := q) (by rw [HT.out.2]; exact lq)
      have fc := oU1.drew.frozen q
      have cc := oU1.drew.cellb (i := q) (by rw [fil_length]; exact lq)
      have X1 := xor8 (Gf.nth K q) (Gf.nth T q) (HK.out.1.at_ q) (HT.out.1.at_ q)
      have e1 : Gf.nth K q ^^^ Gf.nth T q = FU q := by rw [← HF.out.1]
      rw [e1] at X1
      have HE := Lib.hid (And.intro e1 hq)
      clear e1 hq
      refine wp_region_still_tail 12 (by kernel_rfl) (by kernel_rfl) ?_
      simp only [List.take_succ_cons, List.take_zero, List.drop_succ_cons, List.drop_zero]
      have hb2 := hb1.drew
      have oU2 := oU1.drew
      have oC3 := oC2.drew
      change wpStill _ _ w4.drew (fun a' => wpList _ _ _ _ a' w4.drew) _ _
      generalize w4.drew = w5 at *
      repeat still_step
      refine wpStill_nil ?_
      change wpList _ _ _ _ _ w5
      go_wp2_with fail
      have oU4 := oU2.setb q (FU q)
      rw [HE.out.2, filr_set] at oU4
      have oC4 := oC3.other ⟨G, k % 32, none⟩ (.int .u8 (FU (k % 32) : Nat)) (by show G + 1 ≠ G; omega)
      have hb4 := hb2.setCell (p := ⟨G, k % 32, none⟩) (by show G ≤ G; omega) (.int .u8 (FU (k % 32) : Nat))
      clear X1 ca cb fc cc
      go_roundw
      case rel => exact ⟨k + 1, by omega, by go_num, by rw [HE.out.2]; exact oU4, by rw [HE.out.2]; exact oC4, by rw [HE.out.2]; exact hb4⟩
      case measure => first | (simp [intOf]; done) | (simp [intOf]; omega)
    · obtain rfl : k = 64 := by omega
      have bU := fil_bytes (n := 32) HbU.out.1 64
      have bC := fil_bytes (n := 64) HbU.out.2 64
      have lU := fil_length 32 FU 64
      have lC := fil_length 64 FC 64
      have hx : ∀ i k, i < 5 → k < 32 → Gf.ev [Gf.nth K k, Gf.nth A k, Gf.nth A (32 + k)] (i + 1) ^^^ Gf.ev [Gf.nth T k, Gf.nth B k, Gf.nth B (32 + k)] (i + 1) = Gf.ev [Gf.nth (fil 32 FU 64) k, Gf.nth (fil 64 FC 64) k, Gf.nth (fil 64 FC 64) (32 + k)] (i + 1) := fun i k hi hk => by
        rw [Sx.sums, nth_fil hk (by omega), nth_fil (by omega) (by omega), nth_fil (by omega) (by omega), ← HF.out.1, ← HF.out.2]
      have HX := Lib.hid hx
      clear hx
      generalize fil 32 FU 64 = U at *
      generalize fil 64 FC 64 = C at *
      have sC : (bs C).size = 64 := by rw [bs_size, lC]
      have HU := Lib.hid (And.intro bU lU)
      have HC := Lib.hid (And.intro bC lC)
      have hs1 := fun w => ssplit_ok K (bs A) 5 HK.out.1 HK.out.2 sA (by omega) (by omega) w
      have hs2 := fun w => ssplit_ok T (bs B) 5 HT.out.1 HT.out.2 sB (by omega) (by omega) w
      have hs3 := fun w => ssplit_ok U (bs C) 5 HU.out.1 HU.out.2 sC (by omega) (by omega) w
      rw [toN_bs HA.out.1] at hs1
      rw [toN_bs HB.out.1] at hs2
      rw [toN_bs HC.out.1] at hs3
      have r0 := o0.rg
      have r1 := o1.rg
      have r2 := o2.rg
      have r3 := o3.rg
      have r4 := oU.rg
      have r5 := oC.rg
      replace bW := bW.trans (hb.mono (by omega))
      clear bU bC lU lC sA sB sC o0 o1 o2 o3 oU oC hb HbU HF
      have i0 : decide ((64 : Int) < 64) = false := by decide
      go_wp2_with fail
      replace r0 := r0.drew
      replace r1 := r1.drew
      replace r2 := r2.drew
      replace r3 := r3.drew
      replace r4 := r4.drew
      replace r5 := r5.drew
      replace bW := bW.drew
      refine wp_region_held_drew (S := fun w' => Below wo.drew.heap.size wo.drew w') (by kernel_rfl) (Below.refl _ _) (fun hH => ?_)
      generalize wo.drew = w6 at *
      refine tkH (i := 0) rfl (by kernel_rfl) (by kernel_rfl) (by kernel_rfl) (fun _ _ _ h => h) hH (yld t23 (by rfl) rfl rfl K r0 HK.out.2) ?_
      try simp only [Act.put, List.setIfInBounds_toArray, List.set_cons_zero, List.set_cons_succ]
      refine tkH (v := ?_) (i := 1) rfl (by kernel_rfl) (by kernel_rfl) (by kernel_rfl) (fun _ _ _ h => h) hH (Or.inl ⟨by rfl, ?_⟩) ?_
      rotate_left
      · intro wq hq
        go_simp
        try rfl
      try simp only [Act.put, List.setIfInBounds_toArray, List.set_cons_zero, List.set_cons_succ]
      refine tkH (v := ?_) (i := 2) rfl (by kernel_rfl) (by kernel_rfl) (by kernel_rfl) (fun _ _ _ h => h) hH (Or.inl ⟨by rfl, ?_⟩) ?_
      rotate_left
      · intro wq hq
        have hcv := conv_bs wq (g + 2) 0 A 64 64 HA.out.2 (r2.below hq)
        go_simp
        try rfl
      try simp only [Act.put, List.setIfInBounds_toArray, List.set_cons_zero, List.set_cons_succ]
      refine efH (i := 3) rfl (by kernel_rfl) (by rfl) (fun KK hKK => ?_)
      go_simp
      refine (hs1 _).mono ?_
      rintro e w7 ⟨⟨A1, c1, rfl, s1, hc1⟩, hx⟩
      have hH' := hH.trans (hx.mono hH.size)
      go_wp2_with fail
      refine hKK.out _ _ hH' (fun hH => ?_)
      clear hKK KK hH'
      try simp only [Act.put, List.setIfInBounds_toArray, List.set_cons_zero, List.set_cons_succ]
      refine tkH (v := ?_) (i := 4) rfl (by kernel_rfl) (by kernel_rfl) (by kernel_rfl) (fun _ _ _ h => h) hH (Or.inl ⟨by rfl, ?_⟩) ?_
      rotate_left
      · intro wq hq
        go_simp
        try rfl
      try simp only [Act.put, List.setIfInBounds_toArray, List.set_cons_zero, List.set_cons_succ]
      refine tkH (v := ?_) (i := 5) rfl (by kernel_rfl) (by kernel_rfl) (by kernel_rfl) (fun _ _ _ h => h) hH (Or.inl ⟨by rfl, ?_⟩) ?_
      rotate_left
      · intro wq hq
        go_simp
        try rfl
      try simp only [Act.put, List.setIfInBounds_toArray, List.set_cons_zero, List.set_cons_succ]
      refine tkH (v := ?_) (i := 6) rfl (by kernel_rfl) (by kernel_rfl) (by kernel_rfl) (fun _ _ _ h => h) hH (Or.inl ⟨by rfl, ?_⟩) ?_
      rotate_left
      · intro wq hq
        go_simp
        try rfl
      try simp only [Act.put, List.setIfInBounds_toArray, List.set_cons_zero, List.set_cons_succ]
      refine tkH (v := ?_) (i := 7) rfl (by kernel_rfl) (by kernel_rfl) (by kernel_rfl) (fun _ _ _ h => h) hH (Or.inl ⟨by rfl, ?_⟩) ?_
      rotate_left
      · intro wq hq
        go_simp
        try rfl
      try simp only [Act.put, List.setIfInBounds_toArray, List.set_cons_zero, List.set_cons_succ]
      refine tkH (v := ?_) (i := 8) rfl (by kernel_rfl) (by kernel_rfl) (by kernel_rfl) (fun _ _ _ h => h) hH (Or.inl ⟨by rfl, ?_⟩) ?_
      rotate_left
      · intro wq hq
        go_simp
        try rfl
      try simp only [Act.put, List.setIfInBounds_toArray, List.set_cons_zero, List.set_cons_succ]
      refine wpAnyH_done (by kernel_rfl) ?_ _
      try simp only [Act.put, List.getElem_toArray, List.getElem_cons_zero, List.getElem_cons_succ, List.setIfInBounds_toArray, List.set_cons_zero, List.set_cons_succ]
      replace r0 := r0.below hH
      replace r1 := r1.below hH
      replace r2 := r2.below hH
      replace r3 := r3.below hH
      replace r4 := r4.below hH
      replace r5 := r5.below hH
      replace bW := bW.trans (hH.mono (by have := bW.size; have := HG.out; omega))
      clear hH hx
      go_wp2_with fail
      replace r0 := r0.drew
      replace r1 := r1.drew
      replace r2 := r2.drew
      replace r3 := r3.drew
      replace r4 := r4.drew
      replace r5 := r5.drew
      replace bW := bW.drew
      replace s1 := s1.drew
      refine wp_region_held_drew (S := fun w' => Below w7.drew.heap.size w7.drew w') (by kernel_rfl) (Below.refl _ _) (fun hH => ?_)
      generalize w7.drew = w8 at *
      refine tkH (i := 0) rfl (by kernel_rfl) (by kernel_rfl) (by kernel_rfl) (fun _ _ _ h => h) hH (yld t23 (by rfl) rfl rfl T r1 HT.out.2) ?_
      try simp only [Act.put, List.setIfInBounds_toArray, List.set_cons_zero, List.set_cons_succ]
      refine tkH (v := ?_) (i := 1) rfl (by kernel_rfl) (by kernel_rfl) (by kernel_rfl) (fun _ _ _ h => h) hH (Or.inl ⟨by rfl, ?_⟩) ?_
      rotate_left
      · intro wq hq
        go_simp
        try rfl
      try simp only [Act.put, List.setIfInBounds_toArray, List.set_cons_zero, List.set_cons_succ]
      refine tkH (v := ?_) (i := 2) rfl (by kernel_rfl) (by kernel_rfl) (by kernel_rfl) (fun _ _ _ h => h) hH (Or.inl ⟨by rfl, ?_⟩) ?_
      rotate_left
      · intro wq hq
        have hcv := conv_bs wq (g + 3) 0 B 64 64 HB.out.2 (r3.below hq)
        go_simp
        try rfl
      try simp only [Act.put, List.setIfInBounds_toArray, List.set_cons_zero, List.set_cons_succ]
      refine efH (i := 3) rfl (by kernel_rfl) (by rfl) (fun KK hKK => ?_)
      go_simp
      refine (hs2 _).mono ?_
      rintro e w9 ⟨⟨A2, c2, rfl, s2, hc2⟩, hx⟩
      have hH' := hH.trans (hx.mono hH.size)
      go_wp2_with fail
      refine hKK.out _ _ hH' (fun hH => ?_)
      clear hKK KK hH'
      try simp only [Act.put, List.setIfInBounds_toArray, List.set_cons_zero, List.set_cons_succ]
      refine tkH (v := ?_) (i := 4) rfl (by kernel_rfl) (by kernel_rfl) (by kernel_rfl) (fun _ _ _ h => h) hH (Or.inl ⟨by rfl, ?_⟩) ?_
      rotate_left
      · intro wq hq
        go_simp
        try rfl
      try simp only [Act.put, List.setIfInBounds_toArray, List.set_cons_zero, List.set_cons_succ]
      refine tkH (v := ?_) (i := 5) rfl (by kernel_rfl) (by kernel_rfl) (by kernel_rfl) (fun _ _ _ h => h) hH (Or.inl ⟨by rfl, ?_⟩) ?_
      rotate_left
      · intro wq hq
        go_simp
        try rfl
      try simp only [Act.put, List.setIfInBounds_toArray, List.set_cons_zero, List.set_cons_succ]
      refine tkH (v := ?_) (i := 6) rfl (by kernel_rfl) (by kernel_rfl) (by kernel_rfl) (fun _ _ _ h => h) hH (Or.inl ⟨by rfl, ?_⟩) ?_
      rotate_left
      · intro wq hq
        go_simp
        try rfl
      try simp only [Act.put, List.setIfInBounds_toArray, List.set_cons_zero, List.set_cons_succ]
      refine tkH (v := ?_) (i := 7) rfl (by kernel_rfl) (by kernel_rfl) (by kernel_rfl) (fun _ _ _ h => h) hH (Or.inl ⟨by rfl, ?_⟩) ?_
      rotate_left
      · intro wq hq
        go_simp
        try rfl
      try simp only [Act.put, List.setIfInBounds_toArray, List.set_cons_zero, List.set_cons_succ]
      refine tkH (v := ?_) (i := 8) rfl (by kernel_rfl) (by kernel_rfl) (by kernel_rfl) (fun _ _ _ h => h) hH (Or.inl ⟨by rfl, ?_⟩) ?_
      rotate_left
      · intro wq hq
        go_simp
        try rfl
      try simp only [Act.put, List.setIfInBounds_toArray, List.set_cons_zero, List.set_cons_succ]
      refine wpAnyH_done (by kernel_rfl) ?_ _
      try simp only [Act.put, List.getElem_toArray, List.getElem_cons_zero, List.getElem_cons_succ, List.setIfInBounds_toArray, List.set_cons_zero, List.set_cons_succ]
      replace r0 := r0.below hH
      replace r1 := r1.below hH
      replace r2 := r2.below hH
      replace r3 := r3.below hH
      replace r4 := r4.below hH
      replace r5 := r5.below hH
      replace s1 := s1.below hH
      replace bW := bW.trans (hH.mono (by have := bW.size; have := HG.out; omega))
      clear hH hx
      go_wp2_with fail
      replace r0 := r0.drew
      replace r1 := r1.drew
      replace r2 := r2.drew
      replace r3 := r3.drew
      replace r4 := r4.drew
      replace r5 := r5.drew
      replace bW := bW.drew
      replace s1 := s1.drew
      replace s2 := s2.drew
      refine wp_region_held_drew (S := fun w' => Below w9.drew.heap.size w9.drew w') (by kernel_rfl) (Below.refl _ _) (fun hH => ?_)
      generalize w9.drew = w10 at *
      refine tkH (i := 0) rfl (by kernel_rfl) (by kernel_rfl) (by kernel_rfl) (fun _ _ _ h => h) hH (yld t23 (by rfl) rfl rfl U r4 HU.out.2) ?_
      try simp only [Act.put, List.setIfInBounds_toArray, List.set_cons_zero, List.set_cons_succ]
      refine tkH (v := ?_) (i := 1) rfl (by kernel_rfl) (by kernel_rfl) (by kernel_rfl) (fun _ _ _ h => h) hH (Or.inl ⟨by rfl, ?_⟩) ?_
      rotate_left
      · intro wq hq
        go_simp
        try rfl
      try simp only [Act.put, List.setIfInBounds_toArray, List.set_cons_zero, List.set_cons_succ]
      refine tkH (v := ?_) (i := 2) rfl (by kernel_rfl) (by kernel_rfl) (by kernel_rfl) (fun _ _ _ h => h) hH (Or.inl ⟨by rfl, ?_⟩) ?_
      rotate_left
      · intro wq hq
        have hcv := conv_bs wq (G + 1) 0 C 64 64 HC.out.2 (r5.below hq)
        go_simp
        try rfl
      try simp only [Act.put, List.setIfInBounds_toArray, List.set_cons_zero, List.set_cons_succ]
      refine efH (i := 3) rfl (by kernel_rfl) (by rfl) (fun KK hKK => ?_)
      go_simp
      refine (hs3 _).mono ?_
      rintro e w11 ⟨⟨A3, c3, rfl, s3, hc3⟩, hx⟩
      have hH' := hH.trans (hx.mono hH.size)
      go_wp2_with fail
      refine hKK.out _ _ hH' (fun hH => ?_)
      clear hKK KK hH'
      try simp only [Act.put, List.setIfInBounds_toArray, List.set_cons_zero, List.set_cons_succ]
      refine tkH (v := ?_) (i := 4) rfl (by kernel_rfl) (by kernel_rfl) (by kernel_rfl) (fun _ _ _ h => h) hH (Or.inl ⟨by rfl, ?_⟩) ?_
      rotate_left
      · intro wq hq
        go_simp
        try rfl
      try simp only [Act.put, List.setIfInBounds_toArray, List.set_cons_zero, List.set_cons_succ]
      refine tkH (v := ?_) (i := 5) rfl (by kernel_rfl) (by kernel_rfl) (by kernel_rfl) (fun _ _ _ h => h) hH (Or.inl ⟨by rfl, ?_⟩) ?_
      rotate_left
      · intro wq hq
        go_simp
        try rfl
      try simp only [Act.put, List.setIfInBounds_toArray, List.set_cons_zero, List.set_cons_succ]
      refine tkH (v := ?_) (i := 6) rfl (by kernel_rfl) (by kernel_rfl) (by kernel_rfl) (fun _ _ _ h => h) hH (Or.inl ⟨by rfl, ?_⟩) ?_
      rotate_left
      · intro wq hq
        go_simp
        try rfl
      try simp only [Act.put, List.setIfInBounds_toArray, List.set_cons_zero, List.set_cons_succ]
      refine tkH (v := ?_) (i := 7) rfl (by kernel_rfl) (by kernel_rfl) (by kernel_rfl) (fun _ _ _ h => h) hH (Or.inl ⟨by rfl, ?_⟩) ?_
      rotate_left
      · intro wq hq
        go_simp
        try rfl
      try simp only [Act.put, List.setIfInBounds_toArray, List.set_cons_zero, List.set_cons_succ]
      refine tkH (v := ?_) (i := 8) rfl (by kernel_rfl) (by kernel_rfl) (by kernel_rfl) (fun _ _ _ h => h) hH (Or.inl ⟨by rfl, ?_⟩) ?_
      rotate_left
      · intro wq hq
        go_simp
        try rfl
      try simp only [Act.put, List.setIfInBounds_toArray, List.set_cons_zero, List.set_cons_succ]
      refine wpAnyH_done (by kernel_rfl) ?_ _
      try simp only [Act.put, List.getElem_toArray, List.getElem_cons_zero, List.getElem_cons_succ, List.setIfInBounds_toArray, List.set_cons_zero, List.set_cons_succ]
      replace r0 := r0.below hH
      replace r1 := r1.below hH
      replace r2 := r2.below hH
      replace r3 := r3.below hH
      replace r4 := r4.below hH
      replace r5 := r5.below hH
      replace s1 := s1.below hH
      replace s2 := s2.below hH
      replace bW := bW.trans (hH.mono (by have := bW.size; have := HG.out; omega))
      clear hH hx
      clear hs1 hs2 hs3
      go_wp2_with fail
      obtain ⟨b1, f1, rfl, q1⟩ := s1.2.2 (by omega)
      obtain ⟨b2, f2, rfl, q2⟩ := s2.2.2 (by omega)
      obtain ⟨b3, f3, rfl, q3⟩ := s3.2.2 (by omega)
      clear s1 s2 s3 r0 r1 r2 r3 r4 r5
      go_loopw [18] (fun i wr => ∃ j : Nat, j ≤ 5 ∧ i = .int .i64 j ∧ Dr w11 wr) (fun i _ => 5 - (intOf i).toNat)
      case atStart => exact ⟨0, by omega, rfl, Dr.refl _⟩
      case round =>
        obtain ⟨j, hj, rfl, hd⟩ := hrel
        generalize wr = wj at *
        by_cases hlj : j < 5
        · have ij : (j : Int) < 5 := by omega
          go_wp2_with fail
          go_loopw [19] (fun i wr => ∃ k : Nat, k ≤ 32 ∧ i = .int .i64 k ∧ Dr w11 wr) (fun i _ => 32 - (intOf i).toNat)
          case atStart => exact ⟨0, by omega, rfl, hd⟩
          case round =>
            clear hd
            obtain ⟨k, hk, rfl, hd⟩ := hrel
            generalize wr = wk at *
            by_cases hlk : k < 32
            · have ik : (k : Int) < 32 := by omega
              have hd1 := hd.drew
              have c1' := byte_at (q1.dr hd1) hlj hlk
              have c2' := byte_at (q2.dr hd1) hlj hlk
              have c3' := byte_at (q3.dr hd1) hlj hlk
              have hx := HX.out j k hlj hlk
              have X1 := xor8 (Gf.ev [Gf.nth K k, Gf.nth A k, Gf.nth A (32 + k)] (j + 1)) (Gf.ev [Gf.nth T k, Gf.nth B k, Gf.nth B (32 + k)] (j + 1)) (Gf.ev_lt (Sx.three_bytes (HK.out.1.at_ _) (HA.out.1.at_ _) (HA.out.1.at_ _)) _) (Gf.ev_lt (Sx.three_bytes (HT.out.1.at_ _) (HB.out.1.at_ _) (HB.out.1.at_ _)) _)
              rw [hx] at X1
              clear hx
              generalize Gf.ev [Gf.nth K k, Gf.nth A k, Gf.nth A (32 + k)] (j + 1) = x1 at *
              generalize Gf.ev [Gf.nth T k, Gf.nth B k, Gf.nth B (32 + k)] (j + 1) = x2 at *
              generalize Gf.ev [Gf.nth U k, Gf.nth C k, Gf.nth C (32 + k)] (j + 1) = x3 at *
              go_wp2_with fail
              refine wp_region_still_tail 22 (by kernel_rfl) (by kernel_rfl) ?_
              simp only [List.take_succ_cons, List.take_zero, List.drop_succ_cons, List.drop_zero]
              change wpStill _ _ wk.drew (fun a' => wpList _ _ _ _ a' wk.drew) _ _
              generalize wk.drew = wl at *
              repeat still_step
              refine wpStill_nil ?_
              change wpList _ _ _ _ _ wl
              go_wp2_with fail
              go_roundw
              case rel => exact ⟨k + 1, by omega, by go_num, hd1⟩
              case measure => first | (simp [intOf]; done) | (simp [intOf]; omega)
            · obtain rfl : k = 32 := by omega
              have ik : decide ((32 : Int) < 32) = false := by decide
              go_wp2_with fail
              go_roundw
              case rel => exact ⟨j + 1, by omega, by go_num, hd⟩
              case measure => first | (simp [intOf]; done) | (simp [intOf]; omega)
        · obtain rfl : j = 5 := by omega
          have ij : decide ((5 : Int) < 5) = false := by decide
          go_wp2_with fail
          go_ret
          refine ⟨rfl, ?_⟩
          rw [HG.out]
          exact below_dr bW hd

set_option maxRecDepth 100000 in
theorem lifted (os : Os) (started : os.Started) (H : Type) (enc : TypeId × Value → H) :
    ReturnsInHanded {} Try.checked os 8 .any (Rows.shareSumsSpec.pre6 enc Try.prog Try.f8 Rows.shareSumsRow.domain false) (Rows.shareSumsSpec.post enc Try.prog Try.f8 false true false false) := by
  refine returnsInHanded_of_change (C := Try.checked) own started (by kernel_rfl) Try.func8
    (ChangeSpec.witness6 (enc := enc) (C := Try.checked) false ⟨#[], #[.agg (Array.replicate 32 (.int .u8 0)), .agg (Array.replicate 32 (.int .u8 0)), .agg (Array.replicate 64 (.int .u8 0)), .agg (Array.replicate 64 (.int .u8 0))], []⟩ 8 (by kernel_rfl) (by kernel_rfl) (by kernel_rfl) (by kernel_rfl)) ?_
  intro W base args ds gs before hval0 hW hcnd _
  have hval : ∀ (j : Nat) t v, Try.f8.params[j]? = some t → args[j]? = some v → Value.okWide Try.prog W .any base t v := hval0
  have hW' := hW
  obtain ⟨p, q, hA0, hV, rfl, hfz, hnd⟩ := hW
  have hA : DataW.TrodAll enc Try.prog W 0 (fun _ => true) true Try.f8.params.toList args.toList ds p := hA0
  rw [Try.params8] at hA hval
  obtain ⟨v0, vs0, d0, ds0, p0, q0, hargs, rfl, rfl, h0, r0⟩ := trodAll_cons hA
  obtain ⟨v1, vs1, d1, ds1, p1, q1, rfl, rfl, rfl, h1, r1⟩ := trodAll_cons r0
  obtain ⟨v2, vs2, d2, ds2, p2, q2, rfl, rfl, rfl, h2, r2⟩ := trodAll_cons r1
  obtain ⟨v3, vs3, d3, ds3, p3, q3, rfl, rfl, rfl, h3, r3⟩ := trodAll_cons r2
  obtain ⟨rfl, rfl, rfl⟩ := trodAll_nil r3
  obtain rfl : args = #[v0, v1, v2, v3] := by cases args; simp_all
  obtain ⟨rfl, rfl⟩ := trodVars_none hV
  obtain ⟨K0, rfl, l0, b0⟩ := okKey (hval 0 23 v0 rfl rfl)
  have k0 := h0
  have lt0 : ∀ x ∈ p0, x.block < W.heap.size := by obtain ⟨m, hm⟩ := k0; exact DataW.trod_lt m _ _ _ hm
  obtain ⟨K1, rfl, l1, b1⟩ := okKey (hval 1 23 v1 rfl rfl)
  have k1 := h1
  have lt1 : ∀ x ∈ p1, x.block < W.heap.size := by obtain ⟨m, hm⟩ := k1; exact DataW.trod_lt m _ _ _ hm
  obtain ⟨K2, rfl, l2, b2⟩ := okNoise (hval 2 36 v2 rfl rfl)
  have k2 := h2
  have lt2 : ∀ x ∈ p2, x.block < W.heap.size := by obtain ⟨m, hm⟩ := k2; exact DataW.trod_lt m _ _ _ hm
  obtain ⟨K3, rfl, l3, b3⟩ := okNoise (hval 3 36 v3 rfl rfl)
  have k3 := h3
  have lt3 : ∀ x ∈ p3, x.block < W.heap.size := by obtain ⟨m, hm⟩ := k3; exact DataW.trod_lt m _ _ _ hm
  clear hA0 hval0
  refine (walk K0 K1 K2 K3 b0 l0 b1 l1 b2 l2 b3 l3 W).mono fun e W' ⟨he, bel⟩ => ?_
  subst he
  exact ⟨_, rfl, _, _, _, [], _, [], hW', trodAll_mk1 (shut_bool Try.underlying4 _), (trodAll_cons_mk (Below.trod laidOut (by kernel_rfl) (of_decide_eq_true (by kernel_rfl)) k0 bel lt0) (trodAll_cons_mk (Below.trod laidOut (by kernel_rfl) (of_decide_eq_true (by kernel_rfl)) k1 bel lt1) (trodAll_cons_mk (Below.trod laidOut (by kernel_rfl) (of_decide_eq_true (by kernel_rfl)) k2 bel lt2) (trodAll_cons_mk (Below.trod laidOut (by kernel_rfl) (of_decide_eq_true (by kernel_rfl)) k3 bel lt3) trodAll_mk0)))), rfl, bel.frame _, fun h => by cases h⟩

theorem over : Rows.shareSumsRow.holds Try.pinned (OpenSpec.ofChange Rows.shareSumsSpec) :=
  OpenClaim.holds_of_wide 8 Try.f8 rfl rfl rfl rfl rfl rfl rfl ⟨rfl, rfl, rfl, rfl, rfl⟩ rfl rfl rfl rfl rfl (by kernel_rfl) Try.func8 (by kernel_rfl)
    (of_decide_eq_true (by kernel_rfl)) (by unfold Func.isWrapper; first | (rw [if_pos (by decide +kernel)]; kernel_rfl) | (rw [if_neg (by decide +kernel)]; exact ⟨rfl, rfl⟩))
    (fun os started H enc _ => lifted os started H enc)

/-- the statement -/
theorem proved : Rows.ShareSumsSaid := over
end Go.Proofs.Ytmnenjgipkopdaa.shareSums
