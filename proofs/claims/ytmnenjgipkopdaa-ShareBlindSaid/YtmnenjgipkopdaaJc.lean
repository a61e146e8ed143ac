/-
  THE WALKS of the coefficients and of the third share, of the document's answer.
-/
import Derived.Test.YtmnenjgipkopdaaJr
namespace Go.Proofs.Ytmnenjgipkopdaa
open Go.RowKit
set_option linter.unusedVariables false
set_option linter.unusedSimpArgs false
set_option maxRecDepth 100000 in
set_option maxHeartbeats 8000000 in
theorem coef_any (cap b o i : Nat) (S T U K : List Nat) (w : World) (bS : Gf.Bytes S) (bT : Gf.Bytes T) (bU : Gf.Bytes U) (lS : S.length = 33) (lT : T.length = 33) (lU : U.length = 33) (hK : Gf.Bytes K) (lK : K.length = 32) (hi : i < 32) (rS : Rg w b o S) (rT : Rg w b (o + 33) T) (rU : Rg w b (o + 66) U)
    (hd : Gf.dup [Gf.nth S 0, Gf.nth T 0, Gf.nth U 0] = false) : Calls Try.prog 17 #[.slice (some ⟨b, o, none⟩) 3 cap, .agg (vs K), .int .i64 (i : Int)] w fun e w' => e = .returned (.tuple #[.int .u8 ((Sx.coef S T U K i).1 : Nat), .int .u8 ((Sx.coef S T U K i).2 : Nat)]) ∧ Below w.heap.size w w' := by
  have o0 := Own.new w 23 (vs K)
  have bW := (Below.refl w.heap.size w).alloc (Nat.le_refl _) (Obj.cells (vs K) 23)
  replace rS := rS.alloc (Obj.cells (vs K) 23)
  replace rT := rT.alloc (Obj.cells (vs K) 23)
  replace rU := rU.alloc (Obj.cells (vs K) 23)
  have ha1 := fun w h1 h2 h3 => rat3 cap 1 b o S T U w (by omega) bS bT bU lS lT lU h1 h2 h3 hd
  have ha2 := fun w h1 h2 h3 => rat3 cap 2 b o S T U w (by omega) bS bT bU lS lT lU h1 h2 h3 hd
  have i0 : (i : Int) < 32 := by omega
  have x1 := fun w => idx23 (l := Sx.at3 S T U 1) (Sx.tab_length _) hi w
  have x2 := fun w => idx23 (l := Sx.at3 S T U 2) (Sx.tab_length _) hi w
  rw [show Gf.nth (Sx.at3 S T U 1) i = Sx.tell S T U 1 i from Sx.nth_tab _ hi] at x1
  rw [show Gf.nth (Sx.at3 S T U 2) i = Sx.tell S T U 2 i from Sx.nth_tab _ hi] at x2
  have l1 := Sx.tell_lt bS bT bU 1 i (by omega)
  have l2 := Sx.tell_lt bS bT bU 2 i (by omega)
  have lk := hK.at_ i
  have hco : Sx.coef S T U K i = ((Sx.tell S T U 1 i ^^^ Gf.nth K i) ^^^ Gf.mul ((Sx.tell S T U 1 i ^^^ Gf.nth K i) ^^^ Gf.mul (Sx.tell S T U 2 i ^^^ Gf.nth K i) (Gf.inv 2)) (Gf.inv 3), Gf.mul ((Sx.tell S T U 1 i ^^^ Gf.nth K i) ^^^ Gf.mul (Sx.tell S T U 2 i ^^^ Gf.nth K i) (Gf.inv 2)) (Gf.inv 3)) := rfl
  have hv2 := fun w => rinv_any 2 w (by omega)
  have hv3 := fun w => rinv_any 3 w (by omega)
  have q2 : Gf.inv 2 < 256 := Gf.inv_lt 2 (by omega)
  have q3 : Gf.inv 3 < 256 := Gf.inv_lt 3 (by omega)
  have HCO := Lib.hid hco
  clear hco hd bS bT bU lS lT lU
  have ck := o0.cellb (i := i) (by omega)
  generalize Sx.tell S T U 1 i = a1 at *
  generalize Sx.tell S T U 2 i = a2 at *
  generalize Gf.nth K i = k at *
  generalize Sx.at3 S T U 1 = J1 at *
  generalize Sx.at3 S T U 2 = J2 at *
  generalize Gf.inv 2 = v2 at *
  generalize Gf.inv 3 = v3 at *
  have X1 := xor8 a1 k l1 lk
  have X2 := xor8 a2 k l2 lk
  have d1 := Gf.xor_lt l1 lk
  have d2 := Gf.xor_lt l2 lk
  generalize a1 ^^^ k = c1 at *
  generalize a2 ^^^ k = c2 at *
  have hm := fun w => rmul_any c2 v2 w d2 q2
  have m2 : Gf.mul c2 v2 < 256 := Gf.mul_lt _ _ d2
  generalize Gf.mul c2 v2 = two at *
  have X3 := xor8 c1 two d1 m2
  have d3 := Gf.xor_lt d1 m2
  generalize c1 ^^^ two = e1 at *
  have hm3 := fun w => rmul_any e1 v3 w d3 q3
  have m3 : Gf.mul e1 v3 < 256 := Gf.mul_lt _ _ d3
  generalize Gf.mul e1 v3 = q at *
  have X4 := xor8 c1 q d1 m3
  generalize c1 ^^^ q = p at *
  clear d1 d2 d3 m2 m3 l1 l2 lk q2 q3 o0
  go_enter Try.func17, Try.ntmps17
  go_wp2_with fail
  generalize hw1 : w.alloc (Obj.cells (vs K) 23) = w1 at *
  have HW := Lib.hid hw1
  clear hw1
  replace rS := rS.drew
  replace rT := rT.drew
  replace rU := rU.drew
  replace bW := bW.drew
  replace ck : w1.drew.cell? ⟨w.heap.size, i, none⟩ = some (.int .u8 (k : Int)) := ck
  refine wp_region_held_drew (S := fun w' => Below w1.drew.heap.size w1.drew w') (by kernel_rfl) (Below.refl _ _) (fun hH => ?_)
  generalize w1.drew = w2 at *
  refine tkH (v := ?_) (i := 0) rfl (by kernel_rfl) (by kernel_rfl) (by kernel_rfl) (fun _ _ _ h => h) hH (Or.inl ⟨by rfl, ?_⟩) ?_
  rotate_left
  · intro wq hq
    go_simp
    try rfl
  try simp only [Act.put, List.setIfInBounds_toArray, List.set_cons_zero, List.set_cons_succ]
  refine tkH (v := ?_) (i := 2) rfl (by kernel_rfl) (by kernel_rfl) (by kernel_rfl) (fun _ _ _ h => h) hH (Or.inl ⟨by rfl, ?_⟩) ?_
  rotate_left
  · intro wq hq
    go_simp
    try rfl
  try simp only [Act.put, List.setIfInBounds_toArray, List.set_cons_zero, List.set_cons_succ]
  refine tkH (v := ?_) (i := 4) rfl (by kernel_rfl) (by kernel_rfl) (by kernel_rfl) (fun _ _ _ h => h) hH (Or.inl ⟨by rfl, ?_⟩) ?_
  rotate_left
  · intro wq hq
    go_simp
    try rfl
  try simp only [Act.put, List.setIfInBounds_toArray, List.set_cons_zero, List.set_cons_succ]
  refine tkH (v := ?_) (i := 5) rfl (by kernel_rfl) (by kernel_rfl) (by kernel_rfl) (fun _ _ _ h => h) hH (Or.inl ⟨by rfl, ?_⟩) ?_
  rotate_left
  · intro wq hq
    go_simp
    try rfl
  try simp only [Act.put, List.setIfInBounds_toArray, List.set_cons_zero, List.set_cons_succ]
  refine tkH (v := ?_) (i := 6) rfl (by kernel_rfl) (by kernel_rfl) (by kernel_rfl) (fun _ _ _ h => h) hH (Or.inl ⟨by rfl, ?_⟩) ?_
  rotate_left
  · intro wq hq
    have c := cell_in ck hq
    go_simp
    try rfl
  try simp only [Act.put, List.setIfInBounds_toArray, List.set_cons_zero, List.set_cons_succ]
  refine efH (i := 1) rfl (by kernel_rfl) (by rfl) (fun KK hKK => ?_)
  go_simp
  refine (ha1 _ rS rT rU).mono ?_
  rintro e w3 ⟨rfl, hx⟩
  have hH' := hH.trans (hx.mono hH.size)
  go_wp2_with fail
  refine hKK.out _ _ hH' (fun hH => ?_)
  clear hKK KK hH'
  try simp only [Act.put, List.setIfInBounds_toArray, List.set_cons_zero, List.set_cons_succ]
  refine tkH (v := ?_) (i := 3) rfl (by kernel_rfl) (by kernel_rfl) (by kernel_rfl) (fun _ _ _ h => h) hH (Or.inl ⟨by rfl, ?_⟩) ?_
  rotate_left
  · intro wq hq
    go_simp
    try rfl
  try simp only [Act.put, List.setIfInBounds_toArray, List.set_cons_zero, List.set_cons_succ]
  refine tkH (v := ?_) (i := 7) rfl (by kernel_rfl) (by kernel_rfl) (by kernel_rfl) (fun _ _ _ h => h) hH (Or.inl ⟨by rfl, ?_⟩) ?_
  rotate_left
  · intro wq hq
    go_simp
    try rfl
  try simp only [Act.put, List.setIfInBounds_toArray, List.set_cons_zero, List.set_cons_succ]
  refine tkH (v := ?_) (i := 8) rfl (by kernel_rfl) (by kernel_rfl) (by kernel_rfl) (fun _ _ _ h => h) hH (Or.inl ⟨by rfl, ?_⟩) ?_
  rotate_left
  · intro wq hq
    go_simp
    try rfl
  try simp only [Act.put, List.setIfInBounds_toArray, List.set_cons_zero, List.set_cons_succ]
  refine wpAnyH_done (by kernel_rfl) ?_ _
  try simp only [Act.put, List.getElem_toArray, List.getElem_cons_zero, List.getElem_cons_succ, List.setIfInBounds_toArray, List.set_cons_zero, List.set_cons_succ]
  replace bW := bW.trans (hH.mono bW.size)
  replace rS := rS.below hH
  replace rT := rT.below hH
  replace rU := rU.below hH
  replace ck := cell_in ck hH
  clear hH hx
  go_wp2_with fail
  replace rS := rS.drew
  replace rT := rT.drew
  replace rU := rU.drew
  replace bW := bW.drew
  replace ck : w3.drew.cell? ⟨w.heap.size, i, none⟩ = some (.int .u8 (k : Int)) := ck
  refine wp_region_held_drew (S := fun w' => Below w3.drew.heap.size w3.drew w') (by kernel_rfl) (Below.refl _ _) (fun hH => ?_)
  generalize w3.drew = w4 at *
  refine tkH (v := ?_) (i := 0) rfl (by kernel_rfl) (by kernel_rfl) (by kernel_rfl) (fun _ _ _ h => h) hH (Or.inl ⟨by rfl, ?_⟩) ?_
  rotate_left
  · intro wq hq
    go_simp
    try rfl
  try simp only [Act.put, List.setIfInBounds_toArray, List.set_cons_zero, List.set_cons_succ]
  refine tkH (v := ?_) (i := 2) rfl (by kernel_rfl) (by kernel_rfl) (by kernel_rfl) (fun _ _ _ h => h) hH (Or.inl ⟨by rfl, ?_⟩) ?_
  rotate_left
  · intro wq hq
    go_simp
    try rfl
  try simp only [Act.put, List.setIfInBounds_toArray, List.set_cons_zero, List.set_cons_succ]
  refine tkH (v := ?_) (i := 4) rfl (by kernel_rfl) (by kernel_rfl) (by kernel_rfl) (fun _ _ _ h => h) hH (Or.inl ⟨by rfl, ?_⟩) ?_
  rotate_left
  · intro wq hq
    go_simp
    try rfl
  try simp only [Act.put, List.setIfInBounds_toArray, List.set_cons_zero, List.set_cons_succ]
  refine tkH (v := ?_) (i := 5) rfl (by kernel_rfl) (by kernel_rfl) (by kernel_rfl) (fun _ _ _ h => h) hH (Or.inl ⟨by rfl, ?_⟩) ?_
  rotate_left
  · intro wq hq
    go_simp
    try rfl
  try simp only [Act.put, List.setIfInBounds_toArray, List.set_cons_zero, List.set_cons_succ]
  refine tkH (v := ?_) (i := 6) rfl (by kernel_rfl) (by kernel_rfl) (by kernel_rfl) (fun _ _ _ h => h) hH (Or.inl ⟨by rfl, ?_⟩) ?_
  rotate_left
  · intro wq hq
    have c := cell_in ck hq
    go_simp
    try rfl
  try simp only [Act.put, List.setIfInBounds_toArray, List.set_cons_zero, List.set_cons_succ]
  refine efH (i := 1) rfl (by kernel_rfl) (by rfl) (fun KK hKK => ?_)
  go_simp
  refine (ha2 _ rS rT rU).mono ?_
  rintro e w5 ⟨rfl, hx⟩
  have hH' := hH.trans (hx.mono hH.size)
  go_wp2_with fail
  refine hKK.out _ _ hH' (fun hH => ?_)
  clear hKK KK hH'
  try simp only [Act.put, List.setIfInBounds_toArray, List.set_cons_zero, List.set_cons_succ]
  refine tkH (v := ?_) (i := 3) rfl (by kernel_rfl) (by kernel_rfl) (by kernel_rfl) (fun _ _ _ h => h) hH (Or.inl ⟨by rfl, ?_⟩) ?_
  rotate_left
  · intro wq hq
    go_simp
    try rfl
  try simp only [Act.put, List.setIfInBounds_toArray, List.set_cons_zero, List.set_cons_succ]
  refine tkH (v := ?_) (i := 7) rfl (by kernel_rfl) (by kernel_rfl) (by kernel_rfl) (fun _ _ _ h => h) hH (Or.inl ⟨by rfl, ?_⟩) ?_
  rotate_left
  · intro wq hq
    go_simp
    try rfl
  try simp only [Act.put, List.setIfInBounds_toArray, List.set_cons_zero, List.set_cons_succ]
  refine efH (i := 8) rfl (by kernel_rfl) (by rfl) (fun KK hKK => ?_)
  go_simp
  refine (hv2 _).mono ?_
  rintro e w6 ⟨rfl, rfl⟩
  have hH' := hH.trans ((Below.refl _ _).mono hH.size)
  go_wp2_with fail
  refine hKK.out _ _ hH' (fun hH => ?_)
  clear hKK KK hH'
  try simp only [Act.put, List.setIfInBounds_toArray, List.set_cons_zero, List.set_cons_succ]
  refine efH (i := 9) rfl (by kernel_rfl) (by rfl) (fun KK hKK => ?_)
  go_simp
  refine (hm _).mono ?_
  rintro e w7 ⟨rfl, rfl⟩
  have hH' := hH.trans ((Below.refl _ _).mono hH.size)
  go_wp2_with fail
  refine hKK.out _ _ hH' (fun hH => ?_)
  clear hKK KK hH'
  try simp only [Act.put, List.setIfInBounds_toArray, List.set_cons_zero, List.set_cons_succ]
  refine tkH (v := ?_) (i := 10) rfl (by kernel_rfl) (by kernel_rfl) (by kernel_rfl) (fun _ _ _ h => h) hH (Or.inl ⟨by rfl, ?_⟩) ?_
  rotate_left
  · intro wq hq
    go_simp
    try rfl
  try simp only [Act.put, List.setIfInBounds_toArray, List.set_cons_zero, List.set_cons_succ]
  refine wpAnyH_done (by kernel_rfl) ?_ _
  try simp only [Act.put, List.getElem_toArray, List.getElem_cons_zero, List.getElem_cons_succ, List.setIfInBounds_toArray, List.set_cons_zero, List.set_cons_succ]
  replace bW := bW.trans (hH.mono bW.size)
  replace rS := rS.below hH
  replace rT := rT.below hH
  replace rU := rU.below hH
  replace ck := cell_in ck hH
  clear hH hx
  clear ha1 ha2 hv2 hm x1 x2 X1 X2 rS rT rU ck
  go_wp2_with fail
  refine (hv3 _).mono ?_
  rintro e w8 ⟨rfl, rfl⟩
  go_wp2_with fail
  refine (hm3 _).mono ?_
  rintro e w9 ⟨rfl, rfl⟩
  go_wp2_with fail
  go_ret2
  exact ⟨by rw [HCO.out]; rfl, bW⟩
set_option maxRecDepth 100000 in
set_option maxHeartbeats 8000000 in
theorem third_any (K A B : List Nat) (X : Nat) (w : World) (hX : X < 256) (hK : Gf.Bytes K) (lK : K.length = 32) (bA : Gf.Bytes A) (lA : A.length = 33) (bB : Gf.Bytes B) (lB : B.length = 33) (a0 : Gf.nth A 0 ≠ 0) (b0 : Gf.nth B 0 ≠ 0) (hab : Gf.nth A 0 ≠ Gf.nth B 0) :
    Calls Try.prog 16 #[.agg (vs K), .agg (vs A), .agg (vs B), .int .u8 (X : Int)] w fun e w' => e = .returned (.agg (vs (Sx.third K A B X))) ∧ Below w.heap.size w w' := by
  have hd : Gf.dup [0, Gf.nth A 0, Gf.nth B 0] = false := Sx.dup3_ne (Ne.symm a0) (Ne.symm b0) hab
  have z1 := sz1 w (Obj.cells (vs K) 23)
  have z2 := sz1 (w.alloc (Obj.cells (vs K) 23)) (Obj.cells (vs A) 34)
  have z3 := sz1 ((w.alloc (Obj.cells (vs K) 23)).alloc (Obj.cells (vs A) 34)) (Obj.cells (vs B) 34)
  have z4 := sz1 (((w.alloc (Obj.cells (vs K) 23)).alloc (Obj.cells (vs A) 34)).alloc (Obj.cells (vs B) 34)) (Obj.cells (vs (zs 33)) 34)
  rw [← z1] at z2
  rw [← z2] at z3
  rw [← z3] at z4
  have o0 := ((((Own.new w 23 (vs K)).alloc (Obj.cells (vs A) 34)).alloc (Obj.cells (vs B) 34)).alloc (Obj.cells (vs (zs 33)) 34)).alloc (Obj.cells (vs (X :: zs 32)) 34)
  have o1 := (((Own.new' (w.alloc (Obj.cells (vs K) 23)) 34 (vs A) z1).alloc (Obj.cells (vs B) 34)).alloc (Obj.cells (vs (zs 33)) 34)).alloc (Obj.cells (vs (X :: zs 32)) 34)
  have o2 := ((Own.new' ((w.alloc (Obj.cells (vs K) 23)).alloc (Obj.cells (vs A) 34)) 34 (vs B) z2).alloc (Obj.cells (vs (zs 33)) 34)).alloc (Obj.cells (vs (X :: zs 32)) 34)
  have o3 := (Own.new' (((w.alloc (Obj.cells (vs K) 23)).alloc (Obj.cells (vs A) 34)).alloc (Obj.cells (vs B) 34)) 34 (vs (zs 33)) z3).alloc (Obj.cells (vs (X :: zs 32)) 34)
  have o4 := Own.new' ((((w.alloc (Obj.cells (vs K) 23)).alloc (Obj.cells (vs A) 34)).alloc (Obj.cells (vs B) 34)).alloc (Obj.cells (vs (zs 33)) 34)) 34 (vs (X :: zs 32)) z4
  have bW := (((((Below.refl w.heap.size w).alloc (Nat.le_refl _) (Obj.cells (vs K) 23)).alloc (by omega) (Obj.cells (vs A) 34)).alloc (by omega) (Obj.cells (vs B) 34)).alloc (by omega) (Obj.cells (vs (zs 33)) 34)).alloc (by omega) (Obj.cells (vs (X :: zs 32)) 34)
  have HD := Lib.hid hd
  have HZ := Lib.hid (And.intro z1 (And.intro z2 (And.intro z3 z4)))
  clear hd z1 z2 z3 z4 a0 b0 hab
  go_enter Try.func16, Try.ntmps16
  go_wp2_with (first | (refine alz z34 rfl rfl ?_) | (refine bld34 rfl rfl rfl ?_) | (refine sto_new t34 rfl rfl rfl rfl rfl ((vs_size _).trans (zs_length _)) (by rw [List.length_cons, zs_length]) ?_))
  generalize hw1 : ((((w.alloc (Obj.cells (vs K) 23)).alloc (Obj.cells (vs A) 34)).alloc (Obj.cells (vs B) 34)).alloc (Obj.cells (vs (zs 33)) 34)).alloc (Obj.cells (vs (X :: zs 32)) 34) = w1 at *
  have HW := Lib.hid hw1
  clear hw1 HZ
  generalize hg : w.heap.size = g at *
  have HG := Lib.hid hg
  clear hg
  obtain ⟨F, hF⟩ : ∃ F : Nat → Nat, F = fun i => Gf.atk [0, Gf.nth A 0, Gf.nth B 0] [Gf.nth K i, Gf.nth A (1 + i), Gf.nth B (1 + i)] X 3 := ⟨_, rfl⟩
  have HF := Lib.hid hF
  clear hF
  rw [show X :: zs 32 = X :: fil 32 F 0 from by rw [fil_zero]; rfl] at o4
  go_loopw [10] (fun i wr => ∃ i' : Nat, i' ≤ 32 ∧ i = .int .i64 i' ∧ Own wr (g + 1 + 1 + 1 + 1) 34 (vs (X :: fil 32 F i')) ∧ Below (g + 1 + 1 + 1 + 1) w1 wr) (fun i _ => 32 - (intOf i).toNat)
  case atStart => exact ⟨0, by omega, rfl, o4, Below.refl _ _⟩
  case round =>
    clear o4
    obtain ⟨i, hi, rfl, oO, hb⟩ := hrel
    generalize wr = wi at *
    by_cases hlt : i < 32
    · have i0 : (i : Int) < 32 := by omega
      have oO1 := oO.drew
      have hb1 := hb.drew
      have h1 := (o1.belowB hb (by omega)).drew.cellb (i := 0) (by omega)
      have h2 := (o2.belowB hb (by omega)).drew.cellb (i := 0) (by omega)
      have f0 := (o0.belowB hb (by omega)).drew.cellb (i := i) (by omega)
      have f1 := (o1.belowB hb (by omega)).drew.cellb (i := 1 + i) (by omega)
      have f2 := (o2.belowB hb (by omega)).drew.cellb (i := 1 + i) (by omega)
      have j0 : (0 : Nat) < 256 := by omega
      have j1 : (Gf.nth A 0) < 256 := bA.at_ _
      have j2 : (Gf.nth B 0) < 256 := bB.at_ _
      have k0 : (Gf.nth K i) < 256 := hK.at_ _
      have k1 : (Gf.nth A (1 + i)) < 256 := bA.at_ _
      have k2 : (Gf.nth B (1 + i)) < 256 := bB.at_ _
      have htl : Gf.atk [0, Gf.nth A 0, Gf.nth B 0] [Gf.nth K i, Gf.nth A (1 + i), Gf.nth B (1 + i)] X 3 = F i := by rw [HF.out]
      have hdd := HD.out
      have HGI : Hid (g + 1 + 1 + 1 + 1 < wi.drew.heap.size) := Lib.hid oO.lt
      clear oO hb
      generalize Gf.nth K i = y0 at *
      generalize Gf.nth A (1 + i) = y1 at *
      generalize Gf.nth B (1 + i) = y2 at *
      generalize Gf.nth A 0 = x1 at *
      generalize Gf.nth B 0 = x2 at *
      have HT := Lib.hid (And.intro htl hdd)
      clear htl hdd j0
      go_wp2_with fail
      refine wp_region_held_drew (S := fun w' => Below wi.drew.heap.size wi.drew w') (by kernel_rfl) (Below.refl _ _) (fun hH => ?_)
      generalize wi.drew = wj at *
      refine tkH (v := ?_) (i := 0) rfl (by kernel_rfl) (by kernel_rfl) (by kernel_rfl) (fun _ _ _ h => h) hH (Or.inl ⟨by rfl, ?_⟩) ?_
      rotate_left
      · intro wq hq
        go_simp
        try rfl
      try simp only [Act.put, List.setIfInBounds_toArray, List.set_cons_zero, List.set_cons_succ]
      refine tkH (v := ?_) (i := 1) rfl (by kernel_rfl) (by kernel_rfl) (by kernel_rfl) (fun _ _ _ h => h) hH (Or.inl ⟨by rfl, ?_⟩) ?_
      rotate_left
      · intro wq hq
        have c := cell_in h1 hq
        go_simp
        try rfl
      try simp only [Act.put, List.setIfInBounds_toArray, List.set_cons_zero, List.set_cons_succ]
      refine tkH (v := ?_) (i := 2) rfl (by kernel_rfl) (by kernel_rfl) (by kernel_rfl) (fun _ _ _ h => h) hH (Or.inl ⟨by rfl, ?_⟩) ?_
      rotate_left
      · intro wq hq
        go_simp
        try rfl
      try simp only [Act.put, List.setIfInBounds_toArray, List.set_cons_zero, List.set_cons_succ]
      refine tkH (v := ?_) (i := 3) rfl (by kernel_rfl) (by kernel_rfl) (by kernel_rfl) (fun _ _ _ h => h) hH (Or.inl ⟨by rfl, ?_⟩) ?_
      rotate_left
      · intro wq hq
        have c := cell_in h2 hq
        go_simp
        try rfl
      try simp only [Act.put, List.setIfInBounds_toArray, List.set_cons_zero, List.set_cons_succ]
      refine tkH (v := ?_) (i := 5) rfl (by kernel_rfl) (by kernel_rfl) (by kernel_rfl) (fun _ _ _ h => h) hH (Or.inl ⟨by rfl, ?_⟩) ?_
      rotate_left
      · intro wq hq
        go_simp
        try rfl
      try simp only [Act.put, List.setIfInBounds_toArray, List.set_cons_zero, List.set_cons_succ]
      refine tkH (v := ?_) (i := 6) rfl (by kernel_rfl) (by kernel_rfl) (by kernel_rfl) (fun _ _ _ h => h) hH (Or.inl ⟨by rfl, ?_⟩) ?_
      rotate_left
      · intro wq hq
        go_simp
        try rfl
      try simp only [Act.put, List.setIfInBounds_toArray, List.set_cons_zero, List.set_cons_succ]
      refine tkH (v := ?_) (i := 7) rfl (by kernel_rfl) (by kernel_rfl) (by kernel_rfl) (fun _ _ _ h => h) hH (Or.inl ⟨by rfl, ?_⟩) ?_
      rotate_left
      · intro wq hq
        have c := cell_in f0 hq
        go_simp
        try rfl
      try simp only [Act.put, List.setIfInBounds_toArray, List.set_cons_zero, List.set_cons_succ]
      refine tkH (v := ?_) (i := 8) rfl (by kernel_rfl) (by kernel_rfl) (by kernel_rfl) (fun _ _ _ h => h) hH (Or.inl ⟨by rfl, ?_⟩) ?_
      rotate_left
      · intro wq hq
        go_simp
        try rfl
      try simp only [Act.put, List.setIfInBounds_toArray, List.set_cons_zero, List.set_cons_succ]
      refine tkH (v := ?_) (i := 9) rfl (by kernel_rfl) (by kernel_rfl) (by kernel_rfl) (fun _ _ _ h => h) hH (Or.inl ⟨by rfl, ?_⟩) ?_
      rotate_left
      · intro wq hq
        go_simp
        try rfl
      try simp only [Act.put, List.setIfInBounds_toArray, List.set_cons_zero, List.set_cons_succ]
      refine tkH (v := ?_) (i := 10) rfl (by kernel_rfl) (by kernel_rfl) (by kernel_rfl) (fun _ _ _ h => h) hH (Or.inl ⟨by rfl, ?_⟩) ?_
      rotate_left
      · intro wq hq
        go_simp
        try rfl
      try simp only [Act.put, List.setIfInBounds_toArray, List.set_cons_zero, List.set_cons_succ]
      refine tkH (v := ?_) (i := 11) rfl (by kernel_rfl) (by kernel_rfl) (by kernel_rfl) (fun _ _ _ h => h) hH (Or.inl ⟨by rfl, ?_⟩) ?_
      rotate_left
      · intro wq hq
        have c := cell_in f1 hq
        go_simp
        try rfl
      try simp only [Act.put, List.setIfInBounds_toArray, List.set_cons_zero, List.set_cons_succ]
      refine tkH (v := ?_) (i := 12) rfl (by kernel_rfl) (by kernel_rfl) (by kernel_rfl) (fun _ _ _ h => h) hH (Or.inl ⟨by rfl, ?_⟩) ?_
      rotate_left
      · intro wq hq
        go_simp
        try rfl
      try simp only [Act.put, List.setIfInBounds_toArray, List.set_cons_zero, List.set_cons_succ]
      refine tkH (v := ?_) (i := 13) rfl (by kernel_rfl) (by kernel_rfl) (by kernel_rfl) (fun _ _ _ h => h) hH (Or.inl ⟨by rfl, ?_⟩) ?_
      rotate_left
      · intro wq hq
        go_simp
        try rfl
      try simp only [Act.put, List.setIfInBounds_toArray, List.set_cons_zero, List.set_cons_succ]
      refine tkH (v := ?_) (i := 14) rfl (by kernel_rfl) (by kernel_rfl) (by kernel_rfl) (fun _ _ _ h => h) hH (Or.inl ⟨by rfl, ?_⟩) ?_
      rotate_left
      · intro wq hq
        go_simp
        try rfl
      try simp only [Act.put, List.setIfInBounds_toArray, List.set_cons_zero, List.set_cons_succ]
      refine tkH (v := ?_) (i := 15) rfl (by kernel_rfl) (by kernel_rfl) (by kernel_rfl) (fun _ _ _ h => h) hH (Or.inl ⟨by rfl, ?_⟩) ?_
      rotate_left
      · intro wq hq
        have c := cell_in f2 hq
        go_simp
        try rfl
      try simp only [Act.put, List.setIfInBounds_toArray, List.set_cons_zero, List.set_cons_succ]
      refine tkH (v := ?_) (i := 17) rfl (by kernel_rfl) (by kernel_rfl) (by kernel_rfl) (fun _ _ _ h => h) hH (Or.inl ⟨by rfl, ?_⟩) ?_
      rotate_left
      · intro wq hq
        go_simp
        try rfl
      try simp only [Act.put, List.setIfInBounds_toArray, List.set_cons_zero, List.set_cons_succ]
      refine efH2 (i := 4) (j := 16) rfl rfl (by kernel_rfl) (by rfl) (by rfl) (fun KK hKK => ?_) (fun KK hKK => ?_)
      · refine wp_of_exec (exec_b3 (x1 := 0) (y1 := x1) (z1 := x2) rfl rfl rfl rfl wj) ?_
        refine hKK.out _ _ ((Below.refl _ wj).alloc (Nat.le_refl _) _) (fun hH => ?_)
        clear hKK KK
        try simp only [Act.put, List.setIfInBounds_toArray, List.set_cons_zero, List.set_cons_succ]
        refine efH (i := 16) rfl (by kernel_rfl) (by rfl) (fun KK hKK => ?_)
        refine wp_of_exec (exec_b3 (x1 := y0) (y1 := y1) (z1 := y2) rfl rfl rfl rfl (wj.alloc (Obj.cells (vs [0, x1, x2]) 5))) ?_
        refine hKK.out _ _ (hH.alloc (by have := hH.size; omega) _) (fun hH => ?_)
        clear hKK KK
        try simp only [Act.put, List.setIfInBounds_toArray, List.set_cons_zero, List.set_cons_succ]
        refine efH (i := 18) rfl (by kernel_rfl) (by rfl) (fun KK hKK => ?_)
        go_simp
        refine (rat_any _ _ 3 3 3 3 [0, x1, x2] [y0, y1, y2] X _ hX (by omega) (by omega) (bs3 ((Own.new wj 5 (vs [0, x1, x2])).alloc (Obj.cells (vs [y0, y1, y2]) 5)) (by omega) j1 j2) (bs3 (Own.new' (wj.alloc (Obj.cells (vs [0, x1, x2]) 5)) 5 (vs [y0, y1, y2]) (sz1 wj (Obj.cells (vs [0, x1, x2]) 5))) k0 k1 k2)).mono ?_
        rintro e w8 ⟨he, hx⟩
        have hH' := hH.trans (hx.below.mono hH.size)
        obtain rfl := at3_yes HT.out.2 he
        clear he
        rw [HT.out.1]
        have oO8 := ((oO1.alloc (Obj.cells (vs [0, x1, x2]) 5)).alloc (Obj.cells (vs [y0, y1, y2]) 5)).dr hx
        go_wp2_with fail
        refine hKK.out _ _ hH' (fun hH => ?_)
        clear hKK KK hH'
        try simp only [Act.put, List.setIfInBounds_toArray, List.set_cons_zero, List.set_cons_succ]
        refine tkH (v := ?_) (i := 19) rfl (by kernel_rfl) (by kernel_rfl) (by kernel_rfl) (fun _ _ _ h => h) hH (Or.inl ⟨by rfl, ?_⟩) ?_
        rotate_left
        · intro wq hq
          go_simp
          try rfl
        try simp only [Act.put, List.setIfInBounds_toArray, List.set_cons_zero, List.set_cons_succ]
        refine tkH (v := ?_) (i := 20) rfl (by kernel_rfl) (by kernel_rfl) (by kernel_rfl) (fun _ _ _ h => h) hH (Or.inl ⟨by rfl, ?_⟩) ?_
        rotate_left
        · intro wq hq
          go_simp
          try rfl
        try simp only [Act.put, List.setIfInBounds_toArray, List.set_cons_zero, List.set_cons_succ]
        refine tkH (v := ?_) (i := 21) rfl (by kernel_rfl) (by kernel_rfl) (by kernel_rfl) (fun _ _ _ h => h) hH (Or.inl ⟨by rfl, ?_⟩) ?_
        rotate_left
        · intro wq hq
          go_simp
          try rfl
        try simp only [Act.put, List.setIfInBounds_toArray, List.set_cons_zero, List.set_cons_succ]
        refine tkH (v := ?_) (i := 22) rfl (by kernel_rfl) (by kernel_rfl) (by kernel_rfl) (fun _ _ _ h => h) hH (Or.inl ⟨by rfl, ?_⟩) ?_
        rotate_left
        · intro wq hq
          go_simp
          try rfl
        try simp only [Act.put, List.setIfInBounds_toArray, List.set_cons_zero, List.set_cons_succ]
        refine tkH (v := ?_) (i := 23) rfl (by kernel_rfl) (by kernel_rfl) (by kernel_rfl) (fun _ _ _ h => h) hH (Or.inl ⟨by rfl, ?_⟩) ?_
        rotate_left
        · intro wq hq
          go_simp
          try rfl
        try simp only [Act.put, List.setIfInBounds_toArray, List.set_cons_zero, List.set_cons_succ]
        refine wpAnyH_done (by kernel_rfl) ?_ _
        try simp only [Act.put, List.getElem_toArray, List.getElem_cons_zero, List.getElem_cons_succ, List.setIfInBounds_toArray, List.set_cons_zero, List.set_cons_succ]
        have oS8 := oO8.setb (1 + i) (F i)
        rw [fil_share _ _ _ hlt] at oS8
        have f9 := oO8.frozen (1 + i)
        have c9 := oO8.cellb (i := 1 + i) (by rw [List.length_cons, fil_length]; omega)
        have hb8 := (hb1.trans (hH.mono (Nat.le_of_lt HGI.out))).setCell (p := ⟨g + 1 + 1 + 1 + 1, 1 + i, none⟩) (Nat.le_refl _) (.int .u8 (F i : Nat))
        clear f0 f1 f2 h1 h2 oO1 hb1 hH
        go_wp2_with fail
        clear f9 c9
        go_roundw
        case rel => exact ⟨i + 1, by omega, by go_num, oS8, hb8⟩
        case measure => first | (simp [intOf]; done) | (simp [intOf]; omega)
      · refine wp_of_exec (exec_b3 (x1 := y0) (y1 := y1) (z1 := y2) rfl rfl rfl rfl wj) ?_
        refine hKK.out _ _ ((Below.refl _ wj).alloc (Nat.le_refl _) _) (fun hH => ?_)
        clear hKK KK
        try simp only [Act.put, List.setIfInBounds_toArray, List.set_cons_zero, List.set_cons_succ]
        refine efH (i := 4) rfl (by kernel_rfl) (by rfl) (fun KK hKK => ?_)
        refine wp_of_exec (exec_b3 (x1 := 0) (y1 := x1) (z1 := x2) rfl rfl rfl rfl (wj.alloc (Obj.cells (vs [y0, y1, y2]) 5))) ?_
        refine hKK.out _ _ (hH.alloc (by have := hH.size; omega) _) (fun hH => ?_)
        clear hKK KK
        try simp only [Act.put, List.setIfInBounds_toArray, List.set_cons_zero, List.set_cons_succ]
        refine efH (i := 18) rfl (by kernel_rfl) (by rfl) (fun KK hKK => ?_)
        go_simp
        refine (rat_any _ _ 3 3 3 3 [0, x1, x2] [y0, y1, y2] X _ hX (by omega) (by omega) (bs3 (Own.new' (wj.alloc (Obj.cells (vs [y0, y1, y2]) 5)) 5 (vs [0, x1, x2]) (sz1 wj (Obj.cells (vs [y0, y1, y2]) 5))) (by omega) j1 j2) (bs3 ((Own.new wj 5 (vs [y0, y1, y2])).alloc (Obj.cells (vs [0, x1, x2]) 5)) k0 k1 k2)).mono ?_
        rintro e w8 ⟨he, hx⟩
        have hH' := hH.trans (hx.below.mono hH.size)
        obtain rfl := at3_yes HT.out.2 he
        clear he
        rw [HT.out.1]
        have oO8 := ((oO1.alloc (Obj.cells (vs [y0, y1, y2]) 5)).alloc (Obj.cells (vs [0, x1, x2]) 5)).dr hx
        go_wp2_with fail
        refine hKK.out _ _ hH' (fun hH => ?_)
        clear hKK KK hH'
        try simp only [Act.put, List.setIfInBounds_toArray, List.set_cons_zero, List.set_cons_succ]
        refine tkH (v := ?_) (i := 19) rfl (by kernel_rfl) (by kernel_rfl) (by kernel_rfl) (fun _ _ _ h => h) hH (Or.inl ⟨by rfl, ?_⟩) ?_
        rotate_left
        · intro wq hq
          go_simp
          try rfl
        try simp only [Act.put, List.setIfInBounds_toArray, List.set_cons_zero, List.set_cons_succ]
        refine tkH (v := ?_) (i := 20) rfl (by kernel_rfl) (by kernel_rfl) (by kernel_rfl) (fun _ _ _ h => h) hH (Or.inl ⟨by rfl, ?_⟩) ?_
        rotate_left
        · intro wq hq
          go_simp
          try rfl
        try simp only [Act.put, List.setIfInBounds_toArray, List.set_cons_zero, List.set_cons_succ]
        refine tkH (v := ?_) (i := 21) rfl (by kernel_rfl) (by kernel_rfl) (by kernel_rfl) (fun _ _ _ h => h) hH (Or.inl ⟨by rfl, ?_⟩) ?_
        rotate_left
        · intro wq hq
          go_simp
          try rfl
        try simp only [Act.put, List.setIfInBounds_toArray, List.set_cons_zero, List.set_cons_succ]
        refine tkH (v := ?_) (i := 22) rfl (by kernel_rfl) (by kernel_rfl) (by kernel_rfl) (fun _ _ _ h => h) hH (Or.inl ⟨by rfl, ?_⟩) ?_
        rotate_left
        · intro wq hq
          go_simp
          try rfl
        try simp only [Act.put, List.setIfInBounds_toArray, List.set_cons_zero, List.set_cons_succ]
        refine tkH (v := ?_) (i := 23) rfl (by kernel_rfl) (by kernel_rfl) (by kernel_rfl) (fun _ _ _ h => h) hH (Or.inl ⟨by rfl, ?_⟩) ?_
        rotate_left
        · intro wq hq
          go_simp
          try rfl
        try simp only [Act.put, List.setIfInBounds_toArray, List.set_cons_zero, List.set_cons_succ]
        refine wpAnyH_done (by kernel_rfl) ?_ _
        try simp only [Act.put, List.getElem_toArray, List.getElem_cons_zero, List.getElem_cons_succ, List.setIfInBounds_toArray, List.set_cons_zero, List.set_cons_succ]
        have oS8 := oO8.setb (1 + i) (F i)
        rw [fil_share _ _ _ hlt] at oS8
        have f9 := oO8.frozen (1 + i)
        have c9 := oO8.cellb (i := 1 + i) (by rw [List.length_cons, fil_length]; omega)
        have hb8 := (hb1.trans (hH.mono (Nat.le_of_lt HGI.out))).setCell (p := ⟨g + 1 + 1 + 1 + 1, 1 + i, none⟩) (Nat.le_refl _) (.int .u8 (F i : Nat))
        clear f0 f1 f2 h1 h2 oO1 hb1 hH
        go_wp2_with fail
        clear f9 c9
        go_roundw
        case rel => exact ⟨i + 1, by omega, by go_num, oS8, hb8⟩
        case measure => first | (simp [intOf]; done) | (simp [intOf]; omega)
    · obtain rfl : i = 32 := by omega
      have i0 : decide ((32 : Int) < 32) = false := by decide
      have rO := oO.rg
      have oR7 := o3.belowB hb (by omega)
      have hl : (X :: fil 32 F 32).length = 33 := by rw [List.length_cons, fil_length]
      have he : X :: fil 32 F 32 = Sx.third K A B X := by rw [fil_all, HF.out]; rfl
      rw [he] at rO hl
      go_wp2_with (first | (refine ld t34 rfl rfl rfl rO hl ?_) | (refine sto t34 rfl rfl rfl rfl oR7 (zs_length _) hl ?_))
      refine res_agg t34 rfl rfl (oR7.row _) hl rfl ⟨rfl, ?_⟩
      rw [HG.out]
      exact below_row (bW.trans (hb.mono (by omega))) (by omega) _
end Go.Proofs.Ytmnenjgipkopdaa
