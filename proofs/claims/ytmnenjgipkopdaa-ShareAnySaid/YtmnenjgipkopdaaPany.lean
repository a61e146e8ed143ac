/-
  For every secret, noise, number and three picks ShareAny answers true: any three shares tell the secret, in any order, and none where one is there twice; the arguments read as before.
-/
import Derived.Test.YtmnenjgipkopdaaRows
import Derived.Test.YtmnenjgipkopdaaOk
import Derived.WalkKit
import Derived.ProofKit
import Derived.OpenShut
import Derived.ShutString
import Derived.Test.YtmnenjgipkopdaaJc
namespace Go.Proofs.Ytmnenjgipkopdaa.shareAny
open Go.ChangeShapes Go.WideShapes Go.ChangeAt Go.RowKit
open Go.ChangeMaps (open_string shut_string)
set_option linter.unusedVariables false
set_option linter.unusedSimpArgs false

theorem own : ownKnob Try.prog.godebug = none := by kernel_rfl
theorem zs_bytes (n : Nat) : Gf.Bytes (zs n) := fun x hx => by have := List.eq_of_mem_replicate hx; omega
theorem jis_no {S T U : List Nat} {E : Ending} (h : Sx.ok3 (Gf.nth S 0) (Gf.nth T 0) (Gf.nth U 0) = false) (hj : JIs S T U E) : E = .returned (.tuple #[.agg (vs (zs 32)), .int .i64 1]) := by unfold JIs at hj; rw [if_neg (by rw [h]; simp)] at hj; exact hj
theorem jis_yes {S T U : List Nat} {E : Ending} (h : Sx.ok3 (Gf.nth S 0) (Gf.nth T 0) (Gf.nth U 0) = true) (hj : JIs S T U E) : E = .returned (.tuple #[.agg (vs (Sx.at3 S T U 0)), .int .i64 0]) := by unfold JIs at hj; rw [if_pos h] at hj; exact hj
theorem ldw {ty : TypeId} {n : Nat} (T : AggT ty n) {ops : Array Oper} {rest : List Oper} {o : Oper} {a : Act} {w : World} {Q : Exit → Act → World → Prop} {x : Operand} {b f : Nat} {l : List Nat}
    (hgd : Region.wanted o (yielded ops a.tmps) = true) (ho : o.op = .load ty x) (hx : a.eval x = .pointer (some ⟨b, f, none⟩)) (hg : Rg w b f l) (hl : l.length = n)
    (h : wpList Try.prog ops Q rest (a.put o.dst (.agg (vs l))) w) : wpList Try.prog ops Q (o :: rest) a w := by
  show (if Region.wanted o (yielded ops a.tmps) then o.wp Try.prog a w (wpList Try.prog ops Q rest) Q ∨ (o.asks Try.prog a w ∧ LetsOut Q) else wpList Try.prog ops Q rest (a.put o.dst undef) w)
  rw [if_pos hgd]
  refine .inl ?_
  unfold Oper.wp
  rw [exec_ld T ho hx hg hl]
  exact h
theorem bldw {ops : Array Oper} {rest : List Oper} {o : Oper} {a : Act} {w : World} {Q : Exit → Act → World → Prop} (hgd : Region.wanted o (yielded ops a.tmps) = true) (ho : o.op = .build 23 #[])
    (h : wpList Try.prog ops Q rest (a.put o.dst (.agg (vs (zs 32)))) w) : wpList Try.prog ops Q (o :: rest) a w := by
  show (if Region.wanted o (yielded ops a.tmps) then o.wp Try.prog a w (wpList Try.prog ops Q rest) Q ∨ (o.asks Try.prog a w ∧ LetsOut Q) else wpList Try.prog ops Q rest (a.put o.dst undef) w)
  rw [if_pos hgd]
  refine .inl ?_
  have hb : Try.prog.built 23 [] = some (vs (zs 32)) := by kernel_rfl
  have e : ((#[] : Array (Nat × Operand)).map fun (i, x) => (i, a.eval x)).toList = [] := by simp
  refine wp_build 23 _ ho (by rw [e, hb]; rfl) ?_
  rw [e, hb]
  exact h
theorem nthL_shrs (K M : List Nat) (n i : Nat) (h : i < n) : nthL (Sx.shrs K M n) i = Sx.shr K M (i + 1) := by unfold nthL; rw [Sx.shrs_get _ _ _ _ h]; rfl
theorem share_at {w : World} {A : Option Addr} {K M : List Nat} {a : Nat} (h : Ss w A a (Sx.shrs K M a)) (ha : 0 < a) : ∃ b o, A = some ⟨b, o, none⟩ ∧ ∀ q, q < a → Rg w b (o + q * 33) (Sx.shr K M (q + 1)) := by
  obtain ⟨b, o, rfl, hr⟩ := h.2.2 ha
  exact ⟨b, o, rfl, fun q hq => by
    have := rg_at (n := a) (shrs_33 K M a) hr (i := q) (by rw [Sx.shrs_length]; exact hq)
    rw [nthL_shrs _ _ _ _ hq] at this
    exact this⟩
theorem eqz (p q : Nat) (h : p = q) : (((p : Nat) : Int) == ((q : Nat) : Int)) = true := by simp [h]
theorem eqz' (p q : Nat) (h : p ≠ q) : (((p : Nat) : Int) == ((q : Nat) : Int)) = false := by rw [beq_eq_false_iff_ne]; omega
set_option maxRecDepth 100000 in
set_option maxHeartbeats 8000000 in
theorem walk_yes (K M : List Nat) (n : Nat) (P : List Nat) (hK : Gf.Bytes K) (lK : K.length = 32) (hM : Gf.Bytes M) (lM : M.length = 64) (hn : n < 256) (hP : Gf.Bytes P) (lP : P.length = 3) (W : World)
    (a q1 q2 q3 : Nat) (ha : a = 3 + n % 20) (e1 : q1 = Gf.nth P 0 % a) (e2 : q2 = Gf.nth P 1 % a) (e3 : q3 = Gf.nth P 2 % a) (d12 : q1 ≠ q2) (d13 : q1 ≠ q3) (d23 : q2 ≠ q3) :
    Calls Try.prog 5 #[.agg (vs K), .agg (vs M), .int .u8 (n : Int), .agg (vs P)] W fun e w' => e = .returned (.bool true) ∧ Below W.heap.size W w' := by
  have HK := Lib.hid (And.intro hK lK)
  have HM := Lib.hid (And.intro hM lM)
  have HP := Lib.hid (And.intro hP lP)
  have hMs : (bs M).size = 64 := by rw [bs_size, lM]
  have la : 3 ≤ a := by omega
  have ua : a ≤ 22 := by omega
  have ap : 0 < a := by omega
  have m1 : q1 < a := by rw [e1]; exact Nat.mod_lt _ ap
  have m2 : q2 < a := by rw [e2]; exact Nat.mod_lt _ ap
  have m3 : q3 < a := by rw [e3]; exact Nat.mod_lt _ ap
  have hZ : Sx.at3 (Sx.shr K M (q1 + 1)) (Sx.shr K M (q2 + 1)) (Sx.shr K M (q3 + 1)) 0 = K := Sx.any_three hK hM lK (by omega) (by omega) (by omega) (by omega) (by omega) (by omega)
  have hok : Sx.ok3 (Gf.nth (Sx.shr K M (q1 + 1)) 0) (Gf.nth (Sx.shr K M (q2 + 1)) 0) (Gf.nth (Sx.shr K M (q3 + 1)) 0) = true := by
    rw [Sx.shr_head, Sx.shr_head, Sx.shr_head, Sx.ok3_iff]; omega
  obtain ⟨Z, hZe⟩ : ∃ Z, Z = K := ⟨_, rfl⟩
  have hj : ∀ A w, Ss w A 3 [Sx.shr K M (q1 + 1), Sx.shr K M (q2 + 1), Sx.shr K M (q3 + 1)] → Calls Try.prog 14 #[.slice A 3 3] w fun e w' => e = .returned (.tuple #[.agg (vs Z), .int .i64 0]) ∧ Below w.heap.size w w' := fun A w h => (sjoin3 A 3 _ _ _ w h).mono fun e w' hh => ⟨by rw [jis_yes hok hh.1, hZ, hZe], hh.2⟩
  have lz : Z.length = 32 := by rw [hZe]; exact lK
  have bz : Gf.Bytes Z := by rw [hZe]; exact hK
  have HJ := Lib.hid hj
  have HZE := Lib.hid hZe
  clear hj hZe
  have t12 := eqz' q1 q2 d12
  have t13 := eqz' q1 q3 d13
  have t23' := eqz' q2 q3 d23
  clear hZ hok d12 d13 d23
  have z1 : W.heap.size + 1 = (W.alloc (Obj.cells (vs K) 23)).heap.size := sz1 _ _
  have z2 : W.heap.size + 1 + 1 = ((W.alloc (Obj.cells (vs K) 23)).alloc (Obj.cells (vs M) 36)).heap.size := by rw [z1]; exact sz1 _ _
  have o0 := ((Own.new W 23 (vs K)).alloc (Obj.cells (vs M) 36)).alloc (Obj.cells (vs P) 37)
  have o1 := (Own.new' (W.alloc (Obj.cells (vs K) 23)) 36 (vs M) z1).alloc (Obj.cells (vs P) 37)
  have o2 := Own.new' ((W.alloc (Obj.cells (vs K) 23)).alloc (Obj.cells (vs M) 36)) 37 (vs P) z2
  have bW := (((Below.refl W.heap.size W).alloc (Nat.le_refl _) (Obj.cells (vs K) 23)).alloc (by omega) (Obj.cells (vs M) 36)).alloc (by omega) (Obj.cells (vs P) 37)
  have hal := alive_any (((W.alloc (Obj.cells (vs K) 23)).alloc (Obj.cells (vs M) 36)).alloc (Obj.cells (vs P) 37))
  have HZ := Lib.hid (And.intro z1 z2)
  have hs1 := fun w => ssplit_ok K (bs M) a hK lK hMs la (by omega) w
  rw [toN_bs hM] at hs1
  clear hK lK hM lM hP lP z1 z2 hMs
  have ea : 3 + (n : Int) % 20 = (a : Int) := by omega
  have HQ := Lib.hid (And.intro ha (And.intro e1 (And.intro e2 e3)))
  clear ha e1 e2 e3
  go_enter Try.func5, Try.ntmps5
  go_wp2_with fail
  refine hal.mono ?_
  rintro e w1 ⟨rfl, hb⟩
  replace bW := bW.trans (hb.mono bW.size)
  have r0 := (o0.below hb).rg
  have r1 := (o1.below hb).rg
  have r2 := (o2.below hb).rg
  clear o0 o1 o2 hal hb
  go_wp2_with fail
  replace r0 := r0.drew
  replace r1 := r1.drew
  replace r2 := r2.drew
  replace bW := bW.drew
  refine wp_region_held_drew (S := fun w' => Below w1.drew.heap.size w1.drew w') (by kernel_rfl) (Below.refl _ _) (fun hH => ?_)
  generalize w1.drew = w2 at *
  refine tkH (i := 0) rfl (by kernel_rfl) (by kernel_rfl) (by kernel_rfl) (fun _ _ _ h => h) hH (yld t23 (by rfl) rfl rfl K r0 HK.out.2) ?_
  try simp only [Act.put, List.setIfInBounds_toArray, List.set_cons_zero, List.set_cons_succ]
  refine tkH (v := ?_) (i := 1) rfl (by kernel_rfl) (by kernel_rfl) (by kernel_rfl) (fun _ _ _ h => h) hH (Or.inl ⟨by rfl, ?_⟩) ?_
  rotate_left
  · intro wq hq
    go_simp
    try rfl
  try simp only [Act.put, List.setIfInBounds_toArray, List.set_cons_zero, List.set_cons_succ]
  refine tkH (v := ?_) (i := 2) rfl (by kernel_rfl) (by kernel_rfl) (by kernel_rfl) (fun _ _ _ h => h) hH (Or.inl ⟨by rfl, ?_⟩) ?_
  rotate_left
  · intro wq hq
    go_simp
    try rfl
  try simp only [Act.put, List.setIfInBounds_toArray, List.set_cons_zero, List.set_cons_succ]
  refine tkH (v := ?_) (i := 3) rfl (by kernel_rfl) (by kernel_rfl) (by kernel_rfl) (fun _ _ _ h => h) hH (Or.inl ⟨by rfl, ?_⟩) ?_
  rotate_left
  · intro wq hq
    have hcv := conv_bs wq (W.heap.size + 1) 0 M 64 64 HM.out.2 (r1.below hq)
    go_simp
    try rfl
  try simp only [Act.put, List.setIfInBounds_toArray, List.set_cons_zero, List.set_cons_succ]
  refine efH (i := 4) rfl (by kernel_rfl) (by rfl) (fun KK hKK => ?_)
  go_simp
  refine (hs1 _).mono ?_
  rintro e w3 ⟨⟨A, c, rfl, s1, hc⟩, hx⟩
  have hH' := hH.trans (hx.mono hH.size)
  go_wp2_with fail
  refine hKK.out _ _ hH' (fun hH => ?_)
  clear hKK KK hH'
  try simp only [Act.put, List.setIfInBounds_toArray, List.set_cons_zero, List.set_cons_succ]
  refine tkH (v := ?_) (i := 5) rfl (by kernel_rfl) (by kernel_rfl) (by kernel_rfl) (fun _ _ _ h => h) hH (Or.inl ⟨by rfl, ?_⟩) ?_
  rotate_left
  · intro wq hq
    go_simp
    try rfl
  try simp only [Act.put, List.setIfInBounds_toArray, List.set_cons_zero, List.set_cons_succ]
  refine tkH (v := ?_) (i := 6) rfl (by kernel_rfl) (by kernel_rfl) (by kernel_rfl) (fun _ _ _ h => h) hH (Or.inl ⟨by rfl, ?_⟩) ?_
  rotate_left
  · intro wq hq
    go_simp
    try rfl
  try simp only [Act.put, List.setIfInBounds_toArray, List.set_cons_zero, List.set_cons_succ]
  refine tkH (v := ?_) (i := 7) rfl (by kernel_rfl) (by kernel_rfl) (by kernel_rfl) (fun _ _ _ h => h) hH (Or.inl ⟨by rfl, ?_⟩) ?_
  rotate_left
  · intro wq hq
    go_simp
    try rfl
  try simp only [Act.put, List.setIfInBounds_toArray, List.set_cons_zero, List.set_cons_succ]
  refine tkH (v := ?_) (i := 8) rfl (by kernel_rfl) (by kernel_rfl) (by kernel_rfl) (fun _ _ _ h => h) hH (Or.inl ⟨by rfl, ?_⟩) ?_
  rotate_left
  · intro wq hq
    go_simp
    try rfl
  try simp only [Act.put, List.setIfInBounds_toArray, List.set_cons_zero, List.set_cons_succ]
  refine tkH (v := ?_) (i := 9) rfl (by kernel_rfl) (by kernel_rfl) (by kernel_rfl) (fun _ _ _ h => h) hH (Or.inl ⟨by rfl, ?_⟩) ?_
  rotate_left
  · intro wq hq
    go_simp
    try rfl
  try simp only [Act.put, List.setIfInBounds_toArray, List.set_cons_zero, List.set_cons_succ]
  refine wpAnyH_done (by kernel_rfl) ?_ _
  try simp only [Act.put, List.getElem_toArray, List.getElem_cons_zero, List.getElem_cons_succ, List.setIfInBounds_toArray, List.set_cons_zero, List.set_cons_succ]
  replace bW := bW.trans (hH.mono bW.size)
  replace r0 := r0.below hH
  replace r1 := r1.below hH
  replace r2 := r2.below hH
  clear hs1 hx hH
  obtain ⟨b, o, rfl, hsh⟩ := share_at s1 ap
  have cp0 := r2.cell (i := 0) (by rw [HP.out.2]; omega)
  have cp1 := r2.cell (i := 1) (by rw [HP.out.2]; omega)
  have cp2 := r2.cell (i := 2) (by rw [HP.out.2]; omega)
  have v1 : Int.tmod (Gf.nth P 0 : Nat) (a : Int) = (q1 : Int) := by rw [HQ.out.2.1]; exact (Int.ofNat_tmod _ _).symm
  have v2 : Int.tmod (Gf.nth P 1 : Nat) (a : Int) = (q2 : Int) := by rw [HQ.out.2.2.1]; exact (Int.ofNat_tmod _ _).symm
  have v3 : Int.tmod (Gf.nth P 2 : Nat) (a : Int) = (q3 : Int) := by rw [HQ.out.2.2.2]; exact (Int.ofNat_tmod _ _).symm
  have u1 : (Gf.nth P 0 : Int) % (a : Int) = (q1 : Int) := by rw [HQ.out.2.1]; simp
  have u2 : (Gf.nth P 1 : Int) % (a : Int) = (q2 : Int) := by rw [HQ.out.2.2.1]; simp
  have u3 : (Gf.nth P 2 : Int) % (a : Int) = (q3 : Int) := by rw [HQ.out.2.2.2]; simp
  have an : ((a : Int) == 0) = false := by rw [beq_eq_false_iff_ne]; omega
  have i1 : (q1 : Int) < (a : Int) := by omega
  have i2 : (q2 : Int) < (a : Int) := by omega
  have i3 : (q3 : Int) < (a : Int) := by omega
  have rS := hsh q1 m1
  have rT := hsh q2 m2
  have rU := hsh q3 m3
  have l1 := Sx.shr_length K M (q1 + 1)
  have l2 := Sx.shr_length K M (q2 + 1)
  have l3 := Sx.shr_length K M (q3 + 1)
  have b1 := Sx.shr_bytes HK.out.1 HM.out.1 (show q1 + 1 < 256 by omega)
  have b2 := Sx.shr_bytes HK.out.1 HM.out.1 (show q2 + 1 < 256 by omega)
  have b3 := Sx.shr_bytes HK.out.1 HM.out.1 (show q3 + 1 < 256 by omega)
  have HB := Lib.hid (And.intro b1 (And.intro b2 b3))
  clear s1 hsh b1 b2 b3 r1 r2
  generalize Sx.shr K M (q1 + 1) = S at *
  generalize Sx.shr K M (q2 + 1) = T at *
  generalize Sx.shr K M (q3 + 1) = U at *
  have j0 := HP.out.1.at_ 0
  have j1 := HP.out.1.at_ 1
  have j2 := HP.out.1.at_ 2
  generalize Gf.nth P 0 = p0 at *
  generalize Gf.nth P 1 = p1 at *
  generalize Gf.nth P 2 = p2 at *
  have wp0 : wrap64 (p0 : Int) = (p0 : Int) := by unfold wrap64; omega
  have wp1 : wrap64 (p1 : Int) = (p1 : Int) := by unfold wrap64; omega
  have wp2 : wrap64 (p2 : Int) = (p2 : Int) := by unfold wrap64; omega
  clear j0 j1 j2
  go_wp2_with fail
  go_quiet (fail)
  have hd : Dr w3 (w3.drewN nq) := ⟨nq, rfl⟩
  replace bW := below_dr bW hd
  replace r0 := r0.dr hd
  replace rS := rS.dr hd
  replace rT := rT.dr hd
  replace rU := rU.dr hd
  clear hd cp0 cp1 cp2 wp0 wp1 wp2 v1 v2 v3 u1 u2 u3 an
  generalize w3.drewN nq = w4 at *
  go_wp2_with fail
  replace r0 := r0.drew
  replace rS := rS.drew
  replace rT := rT.drew
  replace rU := rU.drew
  replace bW := bW.drew
  refine wp_region_held_drew (S := fun w' => Below w4.drew.heap.size w4.drew w') (by kernel_rfl) (Below.refl _ _) (fun hH => ?_)
  generalize w4.drew = x0 at *
  refine tkH (v := ?_) (i := 0) rfl (by kernel_rfl) (by kernel_rfl) (by kernel_rfl) (fun _ _ _ h => h) hH (Or.inl ⟨by rfl, ?_⟩) ?_
  rotate_left
  · intro wq hq
    go_simp
    try rfl
  try simp only [Act.put, List.setIfInBounds_toArray, List.set_cons_zero, List.set_cons_succ]
  refine tkH (v := ?_) (i := 1) rfl (by kernel_rfl) (by kernel_rfl) (by kernel_rfl) (fun _ _ _ h => h) hH (Or.inl ⟨by rfl, ?_⟩) ?_
  rotate_left
  · intro wq hq
    go_simp
    try rfl
  try simp only [Act.put, List.setIfInBounds_toArray, List.set_cons_zero, List.set_cons_succ]
  refine tkH (v := ?_) (i := 2) rfl (by kernel_rfl) (by kernel_rfl) (by kernel_rfl) (fun _ _ _ h => h) hH (Or.inl ⟨by rfl, ?_⟩) ?_
  rotate_left
  · intro wq hq
    go_simp
    try rfl
  try simp only [Act.put, List.setIfInBounds_toArray, List.set_cons_zero, List.set_cons_succ]
  refine tkH (i := 3) rfl (by kernel_rfl) (by kernel_rfl) (by kernel_rfl) (fun _ _ _ h => h) hH (yld t34 (by rfl) rfl rfl S rS l1) ?_
  try simp only [Act.put, List.setIfInBounds_toArray, List.set_cons_zero, List.set_cons_succ]
  refine tkH (v := ?_) (i := 4) rfl (by kernel_rfl) (by kernel_rfl) (by kernel_rfl) (fun _ _ _ h => h) hH (Or.inl ⟨by rfl, ?_⟩) ?_
  rotate_left
  · intro wq hq
    go_simp
    try rfl
  try simp only [Act.put, List.setIfInBounds_toArray, List.set_cons_zero, List.set_cons_succ]
  refine tkH (v := ?_) (i := 5) rfl (by kernel_rfl) (by kernel_rfl) (by kernel_rfl) (fun _ _ _ h => h) hH (Or.inl ⟨by rfl, ?_⟩) ?_
  rotate_left
  · intro wq hq
    go_simp
    try rfl
  try simp only [Act.put, List.setIfInBounds_toArray, List.set_cons_zero, List.set_cons_succ]
  refine tkH (v := ?_) (i := 6) rfl (by kernel_rfl) (by kernel_rfl) (by kernel_rfl) (fun _ _ _ h => h) hH (Or.inl ⟨by rfl, ?_⟩) ?_
  rotate_left
  · intro wq hq
    go_simp
    try rfl
  try simp only [Act.put, List.setIfInBounds_toArray, List.set_cons_zero, List.set_cons_succ]
  refine tkH (i := 7) rfl (by kernel_rfl) (by kernel_rfl) (by kernel_rfl) (fun _ _ _ h => h) hH (yld t34 (by rfl) rfl rfl T rT l2) ?_
  try simp only [Act.put, List.setIfInBounds_toArray, List.set_cons_zero, List.set_cons_succ]
  refine tkH (v := ?_) (i := 8) rfl (by kernel_rfl) (by kernel_rfl) (by kernel_rfl) (fun _ _ _ h => h) hH (Or.inl ⟨by rfl, ?_⟩) ?_
  rotate_left
  · intro wq hq
    go_simp
    try rfl
  try simp only [Act.put, List.setIfInBounds_toArray, List.set_cons_zero, List.set_cons_succ]
  refine tkH (v := ?_) (i := 9) rfl (by kernel_rfl) (by kernel_rfl) (by kernel_rfl) (fun _ _ _ h => h) hH (Or.inl ⟨by rfl, ?_⟩) ?_
  rotate_left
  · intro wq hq
    go_simp
    try rfl
  try simp only [Act.put, List.setIfInBounds_toArray, List.set_cons_zero, List.set_cons_succ]
  refine tkH (v := ?_) (i := 10) rfl (by kernel_rfl) (by kernel_rfl) (by kernel_rfl) (fun _ _ _ h => h) hH (Or.inl ⟨by rfl, ?_⟩) ?_
  rotate_left
  · intro wq hq
    go_simp
    try rfl
  try simp only [Act.put, List.setIfInBounds_toArray, List.set_cons_zero, List.set_cons_succ]
  refine tkH (i := 11) rfl (by kernel_rfl) (by kernel_rfl) (by kernel_rfl) (fun _ _ _ h => h) hH (yld t34 (by rfl) rfl rfl U rU l3) ?_
  try simp only [Act.put, List.setIfInBounds_toArray, List.set_cons_zero, List.set_cons_succ]
  refine efH2 (i := 12) (j := 17) rfl rfl (by kernel_rfl) (by rfl) (by rfl) (fun KK hKK => ?_) (fun KK hKK => ?_)
  · refine wp_of_exec (exec_lit3 l1 l2 l3 rfl rfl rfl rfl x0) ?_
    refine hKK.out _ _ (hH.alloc hH.size _) (fun hH => ?_)
    clear hKK KK
    try simp only [Act.put, List.setIfInBounds_toArray, List.set_cons_zero, List.set_cons_succ]
    have oL := Own.new x0 34 (vs [S, T, U].flatten)
    generalize x0.alloc (Obj.cells (vs [S, T, U].flatten) 34) = x1 at *
    refine efH2 (i := 13) (j := 17) rfl rfl (by kernel_rfl) (by rfl) (by rfl) (fun KK hKK => ?_) (fun KK hKK => ?_)
    · go_simp
      refine (HJ.out _ _ (ss_lit l1 l2 l3 HB.out.1 HB.out.2.1 HB.out.2.2 oL)).mono ?_
      rintro e x2 ⟨rfl, hx⟩
      have hH' := hH.trans (hx.mono hH.size)
      go_wp2_with fail
      refine hKK.out _ _ hH' (fun hH => ?_)
      clear hKK KK hH' hx oL
      try simp only [Act.put, List.setIfInBounds_toArray, List.set_cons_zero, List.set_cons_succ]
      refine tkH (v := ?_) (i := 14) rfl (by kernel_rfl) (by kernel_rfl) (by kernel_rfl) (fun _ _ _ h => h) hH (Or.inl ⟨by rfl, ?_⟩) ?_
      rotate_left
      · intro wq hq
        go_simp
        try rfl
      try simp only [Act.put, List.setIfInBounds_toArray, List.set_cons_zero, List.set_cons_succ]
      refine tkH (v := ?_) (i := 15) rfl (by kernel_rfl) (by kernel_rfl) (by kernel_rfl) (fun _ _ _ h => h) hH (Or.inl ⟨by rfl, ?_⟩) ?_
      rotate_left
      · intro wq hq
        go_simp
        try rfl
      try simp only [Act.put, List.setIfInBounds_toArray, List.set_cons_zero, List.set_cons_succ]
      refine tkH (v := ?_) (i := 16) rfl (by kernel_rfl) (by kernel_rfl) (by kernel_rfl) (fun _ _ _ h => h) hH (Or.inl ⟨by rfl, ?_⟩) ?_
      rotate_left
      · intro wq hq
        go_simp
        try rfl
      try simp only [Act.put, List.setIfInBounds_toArray, List.set_cons_zero, List.set_cons_succ]
      refine efH (i := 17) rfl (by kernel_rfl) (by rfl) (fun KK hKK => ?_)
      refine wp_of_exec (exec_new z23 rfl x2) ?_
      have hle := hH.size
      refine hKK.out _ _ (hH.alloc hH.size _) (fun hH => ?_)
      clear hKK KK
      try simp only [Act.put, List.setIfInBounds_toArray, List.set_cons_zero, List.set_cons_succ]
      have oN := Own.new x2 23 (vs (zs 32))
      generalize x2.alloc (Obj.cells (vs (zs 32)) 23) = x3 at *
      refine efH (i := 18) rfl (by kernel_rfl) (by rfl) (fun KK hKK => ?_)
      refine wp_store_row 23 _ _ rfl x2.heap.size (vs Z) rfl rfl 23 (vs (zs 32)) oN (by rw [t23.siz, vs_size, lz]) (by rw [vs_size, vs_size, zs_length, lz]) (vs_one _) ?_
      refine hKK.out _ _ (below_row hH hle _) (fun hH => ?_)
      clear hKK KK hle
      replace oN := oN.row (vs Z)
      generalize x3.setRow x2.heap.size (vs Z) = xf at *
      try simp only [Act.put, List.setIfInBounds_toArray, List.set_cons_zero, List.set_cons_succ]
      refine tkH (v := ?_) (i := 19) rfl (by kernel_rfl) (by kernel_rfl) (by kernel_rfl) (fun _ _ _ h => h) hH (Or.inl ⟨by rfl, ?_⟩) ?_
      rotate_left
      · intro wq hq
        go_simp
        try rfl
      try simp only [Act.put, List.setIfInBounds_toArray, List.set_cons_zero, List.set_cons_succ]
      refine wpAnyH_done (by kernel_rfl) ?_ _
      try simp only [Act.put, List.getElem_toArray, List.getElem_cons_zero, List.getElem_cons_succ, List.setIfInBounds_toArray, List.set_cons_zero, List.set_cons_succ]
      have rN := oN.rg
      replace r0 := r0.below hH
      rw [← HZE.out] at r0
      replace bW := bW.trans (hH.mono bW.size)
      clear hH rS rT rU oN
      go_wp2_with (first | (refine ldw t23 rfl rfl rfl rN lz ?_) | (refine ldw t23 rfl rfl rfl r0 lz ?_) | (refine cmpw cmp23 false Z Z rfl rfl rfl rfl lz lz bz bz ?_))
      go_ret
      exact ⟨rfl, bW⟩
    · refine wp_of_exec (exec_new z23 rfl x1) ?_
      have hle := hH.size
      refine hKK.out _ _ (hH.alloc hH.size _) (fun hH => ?_)
      clear hKK KK
      try simp only [Act.put, List.setIfInBounds_toArray, List.set_cons_zero, List.set_cons_succ]
      have oN := Own.new x1 23 (vs (zs 32))
      replace oL := oL.alloc (Obj.cells (vs (zs 32)) 23)
      generalize x1.alloc (Obj.cells (vs (zs 32)) 23) = x2 at *
      refine efH (i := 13) rfl (by kernel_rfl) (by rfl) (fun KK hKK => ?_)
      go_simp
      refine (HJ.out _ _ (ss_lit l1 l2 l3 HB.out.1 HB.out.2.1 HB.out.2.2 oL)).mono ?_
      rintro e x3 ⟨rfl, hx⟩
      have hH' := hH.trans (hx.mono hH.size)
      go_wp2_with fail
      refine hKK.out _ _ hH' (fun hH => ?_)
      replace oN := oN.below hx
      clear hKK KK hH' hx oL
      try simp only [Act.put, List.setIfInBounds_toArray, List.set_cons_zero, List.set_cons_succ]
      refine tkH (v := ?_) (i := 14) rfl (by kernel_rfl) (by kernel_rfl) (by kernel_rfl) (fun _ _ _ h => h) hH (Or.inl ⟨by rfl, ?_⟩) ?_
      rotate_left
      · intro wq hq
        go_simp
        try rfl
      try simp only [Act.put, List.setIfInBounds_toArray, List.set_cons_zero, List.set_cons_succ]
      refine tkH (v := ?_) (i := 15) rfl (by kernel_rfl) (by kernel_rfl) (by kernel_rfl) (fun _ _ _ h => h) hH (Or.inl ⟨by rfl, ?_⟩) ?_
      rotate_left
      · intro wq hq
        go_simp
        try rfl
      try simp only [Act.put, List.setIfInBounds_toArray, List.set_cons_zero, List.set_cons_succ]
      refine tkH (v := ?_) (i := 16) rfl (by kernel_rfl) (by kernel_rfl) (by kernel_rfl) (fun _ _ _ h => h) hH (Or.inl ⟨by rfl, ?_⟩) ?_
      rotate_left
      · intro wq hq
        go_simp
        try rfl
      try simp only [Act.put, List.setIfInBounds_toArray, List.set_cons_zero, List.set_cons_succ]
      refine efH (i := 18) rfl (by kernel_rfl) (by rfl) (fun KK hKK => ?_)
      refine wp_store_row 23 _ _ rfl x1.heap.size (vs Z) rfl rfl 23 (vs (zs 32)) oN (by rw [t23.siz, vs_size, lz]) (by rw [vs_size, vs_size, zs_length, lz]) (vs_one _) ?_
      refine hKK.out _ _ (below_row hH hle _) (fun hH => ?_)
      clear hKK KK hle
      replace oN := oN.row (vs Z)
      generalize x3.setRow x1.heap.size (vs Z) = xf at *
      try simp only [Act.put, List.setIfInBounds_toArray, List.set_cons_zero, List.set_cons_succ]
      refine tkH (v := ?_) (i := 19) rfl (by kernel_rfl) (by kernel_rfl) (by kernel_rfl) (fun _ _ _ h => h) hH (Or.inl ⟨by rfl, ?_⟩) ?_
      rotate_left
      · intro wq hq
        go_simp
        try rfl
      try simp only [Act.put, List.setIfInBounds_toArray, List.set_cons_zero, List.set_cons_succ]
      refine wpAnyH_done (by kernel_rfl) ?_ _
      try simp only [Act.put, List.getElem_toArray, List.getElem_cons_zero, List.getElem_cons_succ, List.setIfInBounds_toArray, List.set_cons_zero, List.set_cons_succ]
      have rN := oN.rg
      replace r0 := r0.below hH
      rw [← HZE.out] at r0
      replace bW := bW.trans (hH.mono bW.size)
      clear hH rS rT rU oN
      go_wp2_with (first | (refine ldw t23 rfl rfl rfl rN lz ?_) | (refine ldw t23 rfl rfl rfl r0 lz ?_) | (refine cmpw cmp23 false Z Z rfl rfl rfl rfl lz lz bz bz ?_))
      go_ret
      exact ⟨rfl, bW⟩
  · refine wp_of_exec (exec_new z23 rfl x0) ?_
    have hle := hH.size
    refine hKK.out _ _ (hH.alloc hH.size _) (fun hH => ?_)
    clear hKK KK
    try simp only [Act.put, List.setIfInBounds_toArray, List.set_cons_zero, List.set_cons_succ]
    have oN := Own.new x0 23 (vs (zs 32))
    generalize x0.alloc (Obj.cells (vs (zs 32)) 23) = x1 at *
    refine efH (i := 12) rfl (by kernel_rfl) (by rfl) (fun KK hKK => ?_)
    refine wp_of_exec (exec_lit3 l1 l2 l3 rfl rfl rfl rfl x1) ?_
    refine hKK.out _ _ (hH.alloc hH.size _) (fun hH => ?_)
    clear hKK KK
    try simp only [Act.put, List.setIfInBounds_toArray, List.set_cons_zero, List.set_cons_succ]
    have oL := Own.new x1 34 (vs [S, T, U].flatten)
    replace oN := oN.alloc (Obj.cells (vs [S, T, U].flatten) 34)
    generalize x1.alloc (Obj.cells (vs [S, T, U].flatten) 34) = x2 at *
    refine efH (i := 13) rfl (by kernel_rfl) (by rfl) (fun KK hKK => ?_)
    go_simp
    refine (HJ.out _ _ (ss_lit l1 l2 l3 HB.out.1 HB.out.2.1 HB.out.2.2 oL)).mono ?_
    rintro e x3 ⟨rfl, hx⟩
    have hH' := hH.trans (hx.mono hH.size)
    go_wp2_with fail
    refine hKK.out _ _ hH' (fun hH => ?_)
    replace oN := oN.below hx
    clear hKK KK hH' hx oL
    try simp only [Act.put, List.setIfInBounds_toArray, List.set_cons_zero, List.set_cons_succ]
    refine tkH (v := ?_) (i := 14) rfl (by kernel_rfl) (by kernel_rfl) (by kernel_rfl) (fun _ _ _ h => h) hH (Or.inl ⟨by rfl, ?_⟩) ?_
    rotate_left
    · intro wq hq
      go_simp
      try rfl
    try simp only [Act.put, List.setIfInBounds_toArray, List.set_cons_zero, List.set_cons_succ]
    refine tkH (v := ?_) (i := 15) rfl (by kernel_rfl) (by kernel_rfl) (by kernel_rfl) (fun _ _ _ h => h) hH (Or.inl ⟨by rfl, ?_⟩) ?_
    rotate_left
    · intro wq hq
      go_simp
      try rfl
    try simp only [Act.put, List.setIfInBounds_toArray, List.set_cons_zero, List.set_cons_succ]
    refine tkH (v := ?_) (i := 16) rfl (by kernel_rfl) (by kernel_rfl) (by kernel_rfl) (fun _ _ _ h => h) hH (Or.inl ⟨by rfl, ?_⟩) ?_
    rotate_left
    · intro wq hq
      go_simp
      try rfl
    try simp only [Act.put, List.setIfInBounds_toArray, List.set_cons_zero, List.set_cons_succ]
    refine efH (i := 18) rfl (by kernel_rfl) (by rfl) (fun KK hKK => ?_)
    refine wp_store_row 23 _ _ rfl x0.heap.size (vs Z) rfl rfl 23 (vs (zs 32)) oN (by rw [t23.siz, vs_size, lz]) (by rw [vs_size, vs_size, zs_length, lz]) (vs_one _) ?_
    refine hKK.out _ _ (below_row hH hle _) (fun hH => ?_)
    clear hKK KK hle
    replace oN := oN.row (vs Z)
    generalize x3.setRow x0.heap.size (vs Z) = xf at *
    try simp only [Act.put, List.setIfInBounds_toArray, List.set_cons_zero, List.set_cons_succ]
    refine tkH (v := ?_) (i := 19) rfl (by kernel_rfl) (by kernel_rfl) (by kernel_rfl) (fun _ _ _ h => h) hH (Or.inl ⟨by rfl, ?_⟩) ?_
    rotate_left
    · intro wq hq
      go_simp
      try rfl
    try simp only [Act.put, List.setIfInBounds_toArray, List.set_cons_zero, List.set_cons_succ]
    refine wpAnyH_done (by kernel_rfl) ?_ _
    try simp only [Act.put, List.getElem_toArray, List.getElem_cons_zero, List.getElem_cons_succ, List.setIfInBounds_toArray, List.set_cons_zero, List.set_cons_succ]
    have rN := oN.rg
    replace r0 := r0.below hH
    rw [← HZE.out] at r0
    replace bW := bW.trans (hH.mono bW.size)
    clear hH rS rT rU oN
    go_wp2_with (first | (refine ldw t23 rfl rfl rfl rN lz ?_) | (refine ldw t23 rfl rfl rfl r0 lz ?_) | (refine cmpw cmp23 false Z Z rfl rfl rfl rfl lz lz bz bz ?_))
    go_ret
    exact ⟨rfl, bW⟩
set_option maxRecDepth 100000 in
set_option maxHeartbeats 8000000 in
theorem walk_no1 (K M : List Nat) (n : Nat) (P : List Nat) (hK : Gf.Bytes K) (lK : K.length = 32) (hM : Gf.Bytes M) (lM : M.length = 64) (hn : n < 256) (hP : Gf.Bytes P) (lP : P.length = 3) (W : World)
    (a q1 q2 q3 : Nat) (ha : a = 3 + n % 20) (e1 : q1 = Gf.nth P 0 % a) (e2 : q2 = Gf.nth P 1 % a) (e3 : q3 = Gf.nth P 2 % a) (d12 : q1 = q2) :
    Calls Try.prog 5 #[.agg (vs K), .agg (vs M), .int .u8 (n : Int), .agg (vs P)] W fun e w' => e = .returned (.bool true) ∧ Below W.heap.size W w' := by
  have HK := Lib.hid (And.intro hK lK)
  have HM := Lib.hid (And.intro hM lM)
  have HP := Lib.hid (And.intro hP lP)
  have hMs : (bs M).size = 64 := by rw [bs_size, lM]
  have la : 3 ≤ a := by omega
  have ua : a ≤ 22 := by omega
  have ap : 0 < a := by omega
  have m1 : q1 < a := by rw [e1]; exact Nat.mod_lt _ ap
  have m2 : q2 < a := by rw [e2]; exact Nat.mod_lt _ ap
  have m3 : q3 < a := by rw [e3]; exact Nat.mod_lt _ ap
  have hok : Sx.ok3 (Gf.nth (Sx.shr K M (q1 + 1)) 0) (Gf.nth (Sx.shr K M (q2 + 1)) 0) (Gf.nth (Sx.shr K M (q3 + 1)) 0) = false := by
    rw [Sx.shr_head, Sx.shr_head, Sx.shr_head, Bool.eq_false_iff]
    intro h
    rw [Sx.ok3_iff] at h
    omega
  obtain ⟨Z, hZe⟩ : ∃ Z, Z = zs 32 := ⟨_, rfl⟩
  have hj : ∀ A w, Ss w A 3 [Sx.shr K M (q1 + 1), Sx.shr K M (q2 + 1), Sx.shr K M (q3 + 1)] → Calls Try.prog 14 #[.slice A 3 3] w fun e w' => e = .returned (.tuple #[.agg (vs Z), .int .i64 1]) ∧ Below w.heap.size w w' := fun A w h => (sjoin3 A 3 _ _ _ w h).mono fun e w' hh => ⟨by rw [jis_no hok hh.1, hZe], hh.2⟩
  have lz : Z.length = 32 := by rw [hZe]; exact zs_length _
  have bz : Gf.Bytes Z := by rw [hZe]; exact zs_bytes _
  have HJ := Lib.hid hj
  have HZE := Lib.hid hZe
  clear hj hZe
  have t12 := eqz q1 q2 d12
  clear hok d12
  have z1 : W.heap.size + 1 = (W.alloc (Obj.cells (vs K) 23)).heap.size := sz1 _ _
  have z2 : W.heap.size + 1 + 1 = ((W.alloc (Obj.cells (vs K) 23)).alloc (Obj.cells (vs M) 36)).heap.size := by rw [z1]; exact sz1 _ _
  have o0 := ((Own.new W 23 (vs K)).alloc (Obj.cells (vs M) 36)).alloc (Obj.cells (vs P) 37)
  have o1 := (Own.new' (W.alloc (Obj.cells (vs K) 23)) 36 (vs M) z1).alloc (Obj.cells (vs P) 37)
  have o2 := Own.new' ((W.alloc (Obj.cells (vs K) 23)).alloc (Obj.cells (vs M) 36)) 37 (vs P) z2
  have bW := (((Below.refl W.heap.size W).alloc (Nat.le_refl _) (Obj.cells (vs K) 23)).alloc (by omega) (Obj.cells (vs M) 36)).alloc (by omega) (Obj.cells (vs P) 37)
  have hal := alive_any (((W.alloc (Obj.cells (vs K) 23)).alloc (Obj.cells (vs M) 36)).alloc (Obj.cells (vs P) 37))
  have HZ := Lib.hid (And.intro z1 z2)
  have hs1 := fun w => ssplit_ok K (bs M) a hK lK hMs la (by omega) w
  rw [toN_bs hM] at hs1
  clear hK lK hM lM hP lP z1 z2 hMs
  have ea : 3 + (n : Int) % 20 = (a : Int) := by omega
  have HQ := Lib.hid (And.intro ha (And.intro e1 (And.intro e2 e3)))
  clear ha e1 e2 e3
  go_enter Try.func5, Try.ntmps5
  go_wp2_with fail
  refine hal.mono ?_
  rintro e w1 ⟨rfl, hb⟩
  replace bW := bW.trans (hb.mono bW.size)
  have r0 := (o0.below hb).rg
  have r1 := (o1.below hb).rg
  have r2 := (o2.below hb).rg
  clear o0 o1 o2 hal hb
  go_wp2_with fail
  replace r0 := r0.drew
  replace r1 := r1.drew
  replace r2 := r2.drew
  replace bW := bW.drew
  refine wp_region_held_drew (S := fun w' => Below w1.drew.heap.size w1.drew w') (by kernel_rfl) (Below.refl _ _) (fun hH => ?_)
  generalize w1.drew = w2 at *
  refine tkH (i := 0) rfl (by kernel_rfl) (by kernel_rfl) (by kernel_rfl) (fun _ _ _ h => h) hH (yld t23 (by rfl) rfl rfl K r0 HK.out.2) ?_
  try simp only [Act.put, List.setIfInBounds_toArray, List.set_cons_zero, List.set_cons_succ]
  refine tkH (v := ?_) (i := 1) rfl (by kernel_rfl) (by kernel_rfl) (by kernel_rfl) (fun _ _ _ h => h) hH (Or.inl ⟨by rfl, ?_⟩) ?_
  rotate_left
  · intro wq hq
    go_simp
    try rfl
  try simp only [Act.put, List.setIfInBounds_toArray, List.set_cons_zero, List.set_cons_succ]
  refine tkH (v := ?_) (i := 2) rfl (by kernel_rfl) (by kernel_rfl) (by kernel_rfl) (fun _ _ _ h => h) hH (Or.inl ⟨by rfl, ?_⟩) ?_
  rotate_left
  · intro wq hq
    go_simp
    try rfl
  try simp only [Act.put, List.setIfInBounds_toArray, List.set_cons_zero, List.set_cons_succ]
  refine tkH (v := ?_) (i := 3) rfl (by kernel_rfl) (by kernel_rfl) (by kernel_rfl) (fun _ _ _ h => h) hH (Or.inl ⟨by rfl, ?_⟩) ?_
  rotate_left
  · intro wq hq
    have hcv := conv_bs wq (W.heap.size + 1) 0 M 64 64 HM.out.2 (r1.below hq)
    go_simp
    try rfl
  try simp only [Act.put, List.setIfInBounds_toArray, List.set_cons_zero, List.set_cons_succ]
  refine efH (i := 4) rfl (by kernel_rfl) (by rfl) (fun KK hKK => ?_)
  go_simp
  refine (hs1 _).mono ?_
  rintro e w3 ⟨⟨A, c, rfl, s1, hc⟩, hx⟩
  have hH' := hH.trans (hx.mono hH.size)
  go_wp2_with fail
  refine hKK.out _ _ hH' (fun hH => ?_)
  clear hKK KK hH'
  try simp only [Act.put, List.setIfInBounds_toArray, List.set_cons_zero, List.set_cons_succ]
  refine tkH (v := ?_) (i := 5) rfl (by kernel_rfl) (by kernel_rfl) (by kernel_rfl) (fun _ _ _ h => h) hH (Or.inl ⟨by rfl, ?_⟩) ?_
  rotate_left
  · intro wq hq
    go_simp
    try rfl
  try simp only [Act.put, List.setIfInBounds_toArray, List.set_cons_zero, List.set_cons_succ]
  refine tkH (v := ?_) (i := 6) rfl (by kernel_rfl) (by kernel_rfl) (by kernel_rfl) (fun _ _ _ h => h) hH (Or.inl ⟨by rfl, ?_⟩) ?_
  rotate_left
  · intro wq hq
    go_simp
    try rfl
  try simp only [Act.put, List.setIfInBounds_toArray, List.set_cons_zero, List.set_cons_succ]
  refine tkH (v := ?_) (i := 7) rfl (by kernel_rfl) (by kernel_rfl) (by kernel_rfl) (fun _ _ _ h => h) hH (Or.inl ⟨by rfl, ?_⟩) ?_
  rotate_left
  · intro wq hq
    go_simp
    try rfl
  try simp only [Act.put, List.setIfInBounds_toArray, List.set_cons_zero, List.set_cons_succ]
  refine tkH (v := ?_) (i := 8) rfl (by kernel_rfl) (by kernel_rfl) (by kernel_rfl) (fun _ _ _ h => h) hH (Or.inl ⟨by rfl, ?_⟩) ?_
  rotate_left
  · intro wq hq
    go_simp
    try rfl
  try simp only [Act.put, List.setIfInBounds_toArray, List.set_cons_zero, List.set_cons_succ]
  refine tkH (v := ?_) (i := 9) rfl (by kernel_rfl) (by kernel_rfl) (by kernel_rfl) (fun _ _ _ h => h) hH (Or.inl ⟨by rfl, ?_⟩) ?_
  rotate_left
  · intro wq hq
    go_simp
    try rfl
  try simp only [Act.put, List.setIfInBounds_toArray, List.set_cons_zero, List.set_cons_succ]
  refine wpAnyH_done (by kernel_rfl) ?_ _
  try simp only [Act.put, List.getElem_toArray, List.getElem_cons_zero, List.getElem_cons_succ, List.setIfInBounds_toArray, List.set_cons_zero, List.set_cons_succ]
  replace bW := bW.trans (hH.mono bW.size)
  replace r0 := r0.below hH
  replace r1 := r1.below hH
  replace r2 := r2.below hH
  clear hs1 hx hH
  obtain ⟨b, o, rfl, hsh⟩ := share_at s1 ap
  have cp0 := r2.cell (i := 0) (by rw [HP.out.2]; omega)
  have cp1 := r2.cell (i := 1) (by rw [HP.out.2]; omega)
  have cp2 := r2.cell (i := 2) (by rw [HP.out.2]; omega)
  have v1 : Int.tmod (Gf.nth P 0 : Nat) (a : Int) = (q1 : Int) := by rw [HQ.out.2.1]; exact (Int.ofNat_tmod _ _).symm
  have v2 : Int.tmod (Gf.nth P 1 : Nat) (a : Int) = (q2 : Int) := by rw [HQ.out.2.2.1]; exact (Int.ofNat_tmod _ _).symm
  have v3 : Int.tmod (Gf.nth P 2 : Nat) (a : Int) = (q3 : Int) := by rw [HQ.out.2.2.2]; exact (Int.ofNat_tmod _ _).symm
  have u1 : (Gf.nth P 0 : Int) % (a : Int) = (q1 : Int) := by rw [HQ.out.2.1]; simp
  have u2 : (Gf.nth P 1 : Int) % (a : Int) = (q2 : Int) := by rw [HQ.out.2.2.1]; simp
  have u3 : (Gf.nth P 2 : Int) % (a : Int) = (q3 : Int) := by rw [HQ.out.2.2.2]; simp
  have an : ((a : Int) == 0) = false := by rw [beq_eq_false_iff_ne]; omega
  have i1 : (q1 : Int) < (a : Int) := by omega
  have i2 : (q2 : Int) < (a : Int) := by omega
  have i3 : (q3 : Int) < (a : Int) := by omega
  have rS := hsh q1 m1
  have rT := hsh q2 m2
  have rU := hsh q3 m3
  have l1 := Sx.shr_length K M (q1 + 1)
  have l2 := Sx.shr_length K M (q2 + 1)
  have l3 := Sx.shr_length K M (q3 + 1)
  have b1 := Sx.shr_bytes HK.out.1 HM.out.1 (show q1 + 1 < 256 by omega)
  have b2 := Sx.shr_bytes HK.out.1 HM.out.1 (show q2 + 1 < 256 by omega)
  have b3 := Sx.shr_bytes HK.out.1 HM.out.1 (show q3 + 1 < 256 by omega)
  have HB := Lib.hid (And.intro b1 (And.intro b2 b3))
  clear s1 hsh b1 b2 b3 r1 r2
  generalize Sx.shr K M (q1 + 1) = S at *
  generalize Sx.shr K M (q2 + 1) = T at *
  generalize Sx.shr K M (q3 + 1) = U at *
  have j0 := HP.out.1.at_ 0
  have j1 := HP.out.1.at_ 1
  have j2 := HP.out.1.at_ 2
  generalize Gf.nth P 0 = p0 at *
  generalize Gf.nth P 1 = p1 at *
  generalize Gf.nth P 2 = p2 at *
  have wp0 : wrap64 (p0 : Int) = (p0 : Int) := by unfold wrap64; omega
  have wp1 : wrap64 (p1 : Int) = (p1 : Int) := by unfold wrap64; omega
  have wp2 : wrap64 (p2 : Int) = (p2 : Int) := by unfold wrap64; omega
  clear j0 j1 j2
  go_wp2_with fail
  go_quiet (fail)
  have hd : Dr w3 (w3.drewN nq) := ⟨nq, rfl⟩
  replace bW := below_dr bW hd
  replace r0 := r0.dr hd
  replace rS := rS.dr hd
  replace rT := rT.dr hd
  replace rU := rU.dr hd
  clear hd cp0 cp1 cp2 wp0 wp1 wp2 v1 v2 v3 u1 u2 u3 an
  generalize w3.drewN nq = w4 at *
  go_wp2_with fail
  replace r0 := r0.drew
  replace rS := rS.drew
  replace rT := rT.drew
  replace rU := rU.drew
  replace bW := bW.drew
  refine wp_region_held_drew (S := fun w' => Below w4.drew.heap.size w4.drew w') (by kernel_rfl) (Below.refl _ _) (fun hH => ?_)
  generalize w4.drew = x0 at *
  refine tkH (v := ?_) (i := 0) rfl (by kernel_rfl) (by kernel_rfl) (by kernel_rfl) (fun _ _ _ h => h) hH (Or.inl ⟨by rfl, ?_⟩) ?_
  rotate_left
  · intro wq hq
    go_simp
    try rfl
  try simp only [Act.put, List.setIfInBounds_toArray, List.set_cons_zero, List.set_cons_succ]
  refine tkH (v := ?_) (i := 1) rfl (by kernel_rfl) (by kernel_rfl) (by kernel_rfl) (fun _ _ _ h => h) hH (Or.inl ⟨by rfl, ?_⟩) ?_
  rotate_left
  · intro wq hq
    go_simp
    try rfl
  try simp only [Act.put, List.setIfInBounds_toArray, List.set_cons_zero, List.set_cons_succ]
  refine tkH (v := ?_) (i := 2) rfl (by kernel_rfl) (by kernel_rfl) (by kernel_rfl) (fun _ _ _ h => h) hH (Or.inl ⟨by rfl, ?_⟩) ?_
  rotate_left
  · intro wq hq
    go_simp
    try rfl
  try simp only [Act.put, List.setIfInBounds_toArray, List.set_cons_zero, List.set_cons_succ]
  refine tkH (i := 3) rfl (by kernel_rfl) (by kernel_rfl) (by kernel_rfl) (fun _ _ _ h => h) hH (yld t34 (by rfl) rfl rfl S rS l1) ?_
  try simp only [Act.put, List.setIfInBounds_toArray, List.set_cons_zero, List.set_cons_succ]
  refine tkH (v := ?_) (i := 4) rfl (by kernel_rfl) (by kernel_rfl) (by kernel_rfl) (fun _ _ _ h => h) hH (Or.inl ⟨by rfl, ?_⟩) ?_
  rotate_left
  · intro wq hq
    go_simp
    try rfl
  try simp only [Act.put, List.setIfInBounds_toArray, List.set_cons_zero, List.set_cons_succ]
  refine tkH (v := ?_) (i := 5) rfl (by kernel_rfl) (by kernel_rfl) (by kernel_rfl) (fun _ _ _ h => h) hH (Or.inl ⟨by rfl, ?_⟩) ?_
  rotate_left
  · intro wq hq
    go_simp
    try rfl
  try simp only [Act.put, List.setIfInBounds_toArray, List.set_cons_zero, List.set_cons_succ]
  refine tkH (v := ?_) (i := 6) rfl (by kernel_rfl) (by kernel_rfl) (by kernel_rfl) (fun _ _ _ h => h) hH (Or.inl ⟨by rfl, ?_⟩) ?_
  rotate_left
  · intro wq hq
    go_simp
    try rfl
  try simp only [Act.put, List.setIfInBounds_toArray, List.set_cons_zero, List.set_cons_succ]
  refine tkH (i := 7) rfl (by kernel_rfl) (by kernel_rfl) (by kernel_rfl) (fun _ _ _ h => h) hH (yld t34 (by rfl) rfl rfl T rT l2) ?_
  try simp only [Act.put, List.setIfInBounds_toArray, List.set_cons_zero, List.set_cons_succ]
  refine tkH (v := ?_) (i := 8) rfl (by kernel_rfl) (by kernel_rfl) (by kernel_rfl) (fun _ _ _ h => h) hH (Or.inl ⟨by rfl, ?_⟩) ?_
  rotate_left
  · intro wq hq
    go_simp
    try rfl
  try simp only [Act.put, List.setIfInBounds_toArray, List.set_cons_zero, List.set_cons_succ]
  refine tkH (v := ?_) (i := 9) rfl (by kernel_rfl) (by kernel_rfl) (by kernel_rfl) (fun _ _ _ h => h) hH (Or.inl ⟨by rfl, ?_⟩) ?_
  rotate_left
  · intro wq hq
    go_simp
    try rfl
  try simp only [Act.put, List.setIfInBounds_toArray, List.set_cons_zero, List.set_cons_succ]
  refine tkH (v := ?_) (i := 10) rfl (by kernel_rfl) (by kernel_rfl) (by kernel_rfl) (fun _ _ _ h => h) hH (Or.inl ⟨by rfl, ?_⟩) ?_
  rotate_left
  · intro wq hq
    go_simp
    try rfl
  try simp only [Act.put, List.setIfInBounds_toArray, List.set_cons_zero, List.set_cons_succ]
  refine tkH (i := 11) rfl (by kernel_rfl) (by kernel_rfl) (by kernel_rfl) (fun _ _ _ h => h) hH (yld t34 (by rfl) rfl rfl U rU l3) ?_
  try simp only [Act.put, List.setIfInBounds_toArray, List.set_cons_zero, List.set_cons_succ]
  refine efH2 (i := 12) (j := 17) rfl rfl (by kernel_rfl) (by rfl) (by rfl) (fun KK hKK => ?_) (fun KK hKK => ?_)
  · refine wp_of_exec (exec_lit3 l1 l2 l3 rfl rfl rfl rfl x0) ?_
    refine hKK.out _ _ (hH.alloc hH.size _) (fun hH => ?_)
    clear hKK KK
    try simp only [Act.put, List.setIfInBounds_toArray, List.set_cons_zero, List.set_cons_succ]
    have oL := Own.new x0 34 (vs [S, T, U].flatten)
    generalize x0.alloc (Obj.cells (vs [S, T, U].flatten) 34) = x1 at *
    refine efH2 (i := 13) (j := 17) rfl rfl (by kernel_rfl) (by rfl) (by rfl) (fun KK hKK => ?_) (fun KK hKK => ?_)
    · go_simp
      refine (HJ.out _ _ (ss_lit l1 l2 l3 HB.out.1 HB.out.2.1 HB.out.2.2 oL)).mono ?_
      rintro e x2 ⟨rfl, hx⟩
      have hH' := hH.trans (hx.mono hH.size)
      go_wp2_with fail
      refine hKK.out _ _ hH' (fun hH => ?_)
      clear hKK KK hH' hx oL
      try simp only [Act.put, List.setIfInBounds_toArray, List.set_cons_zero, List.set_cons_succ]
      refine tkH (v := ?_) (i := 14) rfl (by kernel_rfl) (by kernel_rfl) (by kernel_rfl) (fun _ _ _ h => h) hH (Or.inl ⟨by rfl, ?_⟩) ?_
      rotate_left
      · intro wq hq
        go_simp
        try rfl
      try simp only [Act.put, List.setIfInBounds_toArray, List.set_cons_zero, List.set_cons_succ]
      refine tkH (v := ?_) (i := 15) rfl (by kernel_rfl) (by kernel_rfl) (by kernel_rfl) (fun _ _ _ h => h) hH (Or.inl ⟨by rfl, ?_⟩) ?_
      rotate_left
      · intro wq hq
        go_simp
        try rfl
      try simp only [Act.put, List.setIfInBounds_toArray, List.set_cons_zero, List.set_cons_succ]
      refine tkH (v := ?_) (i := 16) rfl (by kernel_rfl) (by kernel_rfl) (by kernel_rfl) (fun _ _ _ h => h) hH (Or.inl ⟨by rfl, ?_⟩) ?_
      rotate_left
      · intro wq hq
        go_simp
        try rfl
      try simp only [Act.put, List.setIfInBounds_toArray, List.set_cons_zero, List.set_cons_succ]
      refine efH (i := 17) rfl (by kernel_rfl) (by rfl) (fun KK hKK => ?_)
      refine wp_of_exec (exec_new z23 rfl x2) ?_
      have hle := hH.size
      refine hKK.out _ _ (hH.alloc hH.size _) (fun hH => ?_)
      clear hKK KK
      try simp only [Act.put, List.setIfInBounds_toArray, List.set_cons_zero, List.set_cons_succ]
      have oN := Own.new x2 23 (vs (zs 32))
      generalize x2.alloc (Obj.cells (vs (zs 32)) 23) = x3 at *
      refine efH (i := 18) rfl (by kernel_rfl) (by rfl) (fun KK hKK => ?_)
      refine wp_store_row 23 _ _ rfl x2.heap.size (vs Z) rfl rfl 23 (vs (zs 32)) oN (by rw [t23.siz, vs_size, lz]) (by rw [vs_size, vs_size, zs_length, lz]) (vs_one _) ?_
      refine hKK.out _ _ (below_row hH hle _) (fun hH => ?_)
      clear hKK KK hle
      replace oN := oN.row (vs Z)
      generalize x3.setRow x2.heap.size (vs Z) = xf at *
      try simp only [Act.put, List.setIfInBounds_toArray, List.set_cons_zero, List.set_cons_succ]
      refine tkH (v := ?_) (i := 19) rfl (by kernel_rfl) (by kernel_rfl) (by kernel_rfl) (fun _ _ _ h => h) hH (Or.inl ⟨by rfl, ?_⟩) ?_
      rotate_left
      · intro wq hq
        go_simp
        try rfl
      try simp only [Act.put, List.setIfInBounds_toArray, List.set_cons_zero, List.set_cons_succ]
      refine wpAnyH_done (by kernel_rfl) ?_ _
      try simp only [Act.put, List.getElem_toArray, List.getElem_cons_zero, List.getElem_cons_succ, List.setIfInBounds_toArray, List.set_cons_zero, List.set_cons_succ]
      have rN := oN.rg
      replace bW := bW.trans (hH.mono bW.size)
      have hZ2 := HZE.out
      clear hH rS rT rU oN r0
      go_wp2_with (first | (refine ldw t23 rfl rfl rfl rN lz ?_) | (refine bldw rfl rfl ?_; rw [← hZ2]) | (refine cmpw cmp23 false Z Z rfl rfl rfl rfl lz lz bz bz ?_))
      go_ret
      exact ⟨rfl, bW⟩
    · refine wp_of_exec (exec_new z23 rfl x1) ?_
      have hle := hH.size
      refine hKK.out _ _ (hH.alloc hH.size _) (fun hH => ?_)
      clear hKK KK
      try simp only [Act.put, List.setIfInBounds_toArray, List.set_cons_zero, List.set_cons_succ]
      have oN := Own.new x1 23 (vs (zs 32))
      replace oL := oL.alloc (Obj.cells (vs (zs 32)) 23)
      generalize x1.alloc (Obj.cells (vs (zs 32)) 23) = x2 at *
      refine efH (i := 13) rfl (by kernel_rfl) (by rfl) (fun KK hKK => ?_)
      go_simp
      refine (HJ.out _ _ (ss_lit l1 l2 l3 HB.out.1 HB.out.2.1 HB.out.2.2 oL)).mono ?_
      rintro e x3 ⟨rfl, hx⟩
      have hH' := hH.trans (hx.mono hH.size)
      go_wp2_with fail
      refine hKK.out _ _ hH' (fun hH => ?_)
      replace oN := oN.below hx
      clear hKK KK hH' hx oL
      try simp only [Act.put, List.setIfInBounds_toArray, List.set_cons_zero, List.set_cons_succ]
      refine tkH (v := ?_) (i := 14) rfl (by kernel_rfl) (by kernel_rfl) (by kernel_rfl) (fun _ _ _ h => h) hH (Or.inl ⟨by rfl, ?_⟩) ?_
      rotate_left
      · intro wq hq
        go_simp
        try rfl
      try simp only [Act.put, List.setIfInBounds_toArray, List.set_cons_zero, List.set_cons_succ]
      refine tkH (v := ?_) (i := 15) rfl (by kernel_rfl) (by kernel_rfl) (by kernel_rfl) (fun _ _ _ h => h) hH (Or.inl ⟨by rfl, ?_⟩) ?_
      rotate_left
      · intro wq hq
        go_simp
        try rfl
      try simp only [Act.put, List.setIfInBounds_toArray, List.set_cons_zero, List.set_cons_succ]
      refine tkH (v := ?_) (i := 16) rfl (by kernel_rfl) (by kernel_rfl) (by kernel_rfl) (fun _ _ _ h => h) hH (Or.inl ⟨by rfl, ?_⟩) ?_
      rotate_left
      · intro wq hq
        go_simp
        try rfl
      try simp only [Act.put, List.setIfInBounds_toArray, List.set_cons_zero, List.set_cons_succ]
      refine efH (i := 18) rfl (by kernel_rfl) (by rfl) (fun KK hKK => ?_)
      refine wp_store_row 23 _ _ rfl x1.heap.size (vs Z) rfl rfl 23 (vs (zs 32)) oN (by rw [t23.siz, vs_size, lz]) (by rw [vs_size, vs_size, zs_length, lz]) (vs_one _) ?_
      refine hKK.out _ _ (below_row hH hle _) (fun hH => ?_)
      clear hKK KK hle
      replace oN := oN.row (vs Z)
      generalize x3.setRow x1.heap.size (vs Z) = xf at *
      try simp only [Act.put, List.setIfInBounds_toArray, List.set_cons_zero, List.set_cons_succ]
      refine tkH (v := ?_) (i := 19) rfl (by kernel_rfl) (by kernel_rfl) (by kernel_rfl) (fun _ _ _ h => h) hH (Or.inl ⟨by rfl, ?_⟩) ?_
      rotate_left
      · intro wq hq
        go_simp
        try rfl
      try simp only [Act.put, List.setIfInBounds_toArray, List.set_cons_zero, List.set_cons_succ]
      refine wpAnyH_done (by kernel_rfl) ?_ _
      try simp only [Act.put, List.getElem_toArray, List.getElem_cons_zero, List.getElem_cons_succ, List.setIfInBounds_toArray, List.set_cons_zero, List.set_cons_succ]
      have rN := oN.rg
      replace bW := bW.trans (hH.mono bW.size)
      have hZ2 := HZE.out
      clear hH rS rT rU oN r0
      go_wp2_with (first | (refine ldw t23 rfl rfl rfl rN lz ?_) | (refine bldw rfl rfl ?_; rw [← hZ2]) | (refine cmpw cmp23 false Z Z rfl rfl rfl rfl lz lz bz bz ?_))
      go_ret
      exact ⟨rfl, bW⟩
  · refine wp_of_exec (exec_new z23 rfl x0) ?_
    have hle := hH.size
    refine hKK.out _ _ (hH.alloc hH.size _) (fun hH => ?_)
    clear hKK KK
    try simp only [Act.put, List.setIfInBounds_toArray, List.set_cons_zero, List.set_cons_succ]
    have oN := Own.new x0 23 (vs (zs 32))
    generalize x0.alloc (Obj.cells (vs (zs 32)) 23) = x1 at *
    refine efH (i := 12) rfl (by kernel_rfl) (by rfl) (fun KK hKK => ?_)
    refine wp_of_exec (exec_lit3 l1 l2 l3 rfl rfl rfl rfl x1) ?_
    refine hKK.out _ _ (hH.alloc hH.size _) (fun hH => ?_)
    clear hKK KK
    try simp only [Act.put, List.setIfInBounds_toArray, List.set_cons_zero, List.set_cons_succ]
    have oL := Own.new x1 34 (vs [S, T, U].flatten)
    replace oN := oN.alloc (Obj.cells (vs [S, T, U].flatten) 34)
    generalize x1.alloc (Obj.cells (vs [S, T, U].flatten) 34) = x2 at *
    refine efH (i := 13) rfl (by kernel_rfl) (by rfl) (fun KK hKK => ?_)
    go_simp
    refine (HJ.out _ _ (ss_lit l1 l2 l3 HB.out.1 HB.out.2.1 HB.out.2.2 oL)).mono ?_
    rintro e x3 ⟨rfl, hx⟩
    have hH' := hH.trans (hx.mono hH.size)
    go_wp2_with fail
    refine hKK.out _ _ hH' (fun hH => ?_)
    replace oN := oN.below hx
    clear hKK KK hH' hx oL
    try simp only [Act.put, List.setIfInBounds_toArray, List.set_cons_zero, List.set_cons_succ]
    refine tkH (v := ?_) (i := 14) rfl (by kernel_rfl) (by kernel_rfl) (by kernel_rfl) (fun _ _ _ h => h) hH (Or.inl ⟨by rfl, ?_⟩) ?_
    rotate_left
    · intro wq hq
      go_simp
      try rfl
    try simp only [Act.put, List.setIfInBounds_toArray, List.set_cons_zero, List.set_cons_succ]
    refine tkH (v := ?_) (i := 15) rfl (by kernel_rfl) (by kernel_rfl) (by kernel_rfl) (fun _ _ _ h => h) hH (Or.inl ⟨by rfl, ?_⟩) ?_
    rotate_left
    · intro wq hq
      go_simp
      try rfl
    try simp only [Act.put, List.setIfInBounds_toArray, List.set_cons_zero, List.set_cons_succ]
    refine tkH (v := ?_) (i := 16) rfl (by kernel_rfl) (by kernel_rfl) (by kernel_rfl) (fun _ _ _ h => h) hH (Or.inl ⟨by rfl, ?_⟩) ?_
    rotate_left
    · intro wq hq
      go_simp
      try rfl
    try simp only [Act.put, List.setIfInBounds_toArray, List.set_cons_zero, List.set_cons_succ]
    refine efH (i := 18) rfl (by kernel_rfl) (by rfl) (fun KK hKK => ?_)
    refine wp_store_row 23 _ _ rfl x0.heap.size (vs Z) rfl rfl 23 (vs (zs 32)) oN (by rw [t23.siz, vs_size, lz]) (by rw [vs_size, vs_size, zs_length, lz]) (vs_one _) ?_
    refine hKK.out _ _ (below_row hH hle _) (fun hH => ?_)
    clear hKK KK hle
    replace oN := oN.row (vs Z)
    generalize x3.setRow x0.heap.size (vs Z) = xf at *
    try simp only [Act.put, List.setIfInBounds_toArray, List.set_cons_zero, List.set_cons_succ]
    refine tkH (v := ?_) (i := 19) rfl (by kernel_rfl) (by kernel_rfl) (by kernel_rfl) (fun _ _ _ h => h) hH (Or.inl ⟨by rfl, ?_⟩) ?_
    rotate_left
    · intro wq hq
      go_simp
      try rfl
    try simp only [Act.put, List.setIfInBounds_toArray, List.set_cons_zero, List.set_cons_succ]
    refine wpAnyH_done (by kernel_rfl) ?_ _
    try simp only [Act.put, List.getElem_toArray, List.getElem_cons_zero, List.getElem_cons_succ, List.setIfInBounds_toArray, List.set_cons_zero, List.set_cons_succ]
    have rN := oN.rg
    replace bW := bW.trans (hH.mono bW.size)
    have hZ2 := HZE.out
    clear hH rS rT rU oN r0
    go_wp2_with (first | (refine ldw t23 rfl rfl rfl rN lz ?_) | (refine bldw rfl rfl ?_; rw [← hZ2]) | (refine cmpw cmp23 false Z Z rfl rfl rfl rfl lz lz bz bz ?_))
    go_ret
    exact ⟨rfl, bW⟩
set_option maxRecDepth 100000 in
set_option maxHeartbeats 8000000 in
theorem walk_no2 (K M : List Nat) (n : Nat) (P : List Nat) (hK : Gf.Bytes K) (lK : K.length = 32) (hM : Gf.Bytes M) (lM : M.length = 64) (hn : n < 256) (hP : Gf.Bytes P) (lP : P.length = 3) (W : World)
    (a q1 q2 q3 : Nat) (ha : a = 3 + n % 20) (e1 : q1 = Gf.nth P 0 % a) (e2 : q2 = Gf.nth P 1 % a) (e3 : q3 = Gf.nth P 2 % a) (d12 : q1 ≠ q2) (d13 : q1 = q3) :
    Calls Try.prog 5 #[.agg (vs K), .agg (vs M), .int .u8 (n : Int), .agg (vs P)] W fun e w' => e = .returned (.bool true) ∧ Below W.heap.size W w' := by
  have HK := Lib.hid (And.intro hK lK)
  have HM := Lib.hid (And.intro hM lM)
  have HP := Lib.hid (And.intro hP lP)
  have hMs : (bs M).size = 64 := by rw [bs_size, lM]
  have la : 3 ≤ a := by omega
  have ua : a ≤ 22 := by omega
  have ap : 0 < a := by omega
  have m1 : q1 < a := by rw [e1]; exact Nat.mod_lt _ ap
  have m2 : q2 < a := by rw [e2]; exact Nat.mod_lt _ ap
  have m3 : q3 < a := by rw [e3]; exact Nat.mod_lt _ ap
  have hok : Sx.ok3 (Gf.nth (Sx.shr K M (q1 + 1)) 0) (Gf.nth (Sx.shr K M (q2 + 1)) 0) (Gf.nth (Sx.shr K M (q3 + 1)) 0) = false := by
    rw [Sx.shr_head, Sx.shr_head, Sx.shr_head, Bool.eq_false_iff]
    intro h
    rw [Sx.ok3_iff] at h
    omega
  obtain ⟨Z, hZe⟩ : ∃ Z, Z = zs 32 := ⟨_, rfl⟩
  have hj : ∀ A w, Ss w A 3 [Sx.shr K M (q1 + 1), Sx.shr K M (q2 + 1), Sx.shr K M (q3 + 1)] → Calls Try.prog 14 #[.slice A 3 3] w fun e w' => e = .returned (.tuple #[.agg (vs Z), .int .i64 1]) ∧ Below w.heap.size w w' := fun A w h => (sjoin3 A 3 _ _ _ w h).mono fun e w' hh => ⟨by rw [jis_no hok hh.1, hZe], hh.2⟩
  have lz : Z.length = 32 := by rw [hZe]; exact zs_length _
  have bz : Gf.Bytes Z := by rw [hZe]; exact zs_bytes _
  have HJ := Lib.hid hj
  have HZE := Lib.hid hZe
  clear hj hZe
  have t12 := eqz' q1 q2 d12
  have t13 := eqz q1 q3 d13
  clear hok d12 d13
  have z1 : W.heap.size + 1 = (W.alloc (Obj.cells (vs K) 23)).heap.size := sz1 _ _
  have z2 : W.heap.size + 1 + 1 = ((W.alloc (Obj.cells (vs K) 23)).alloc (Obj.cells (vs M) 36)).heap.size := by rw [z1]; exact sz1 _ _
  have o0 := ((Own.new W 23 (vs K)).alloc (Obj.cells (vs M) 36)).alloc (Obj.cells (vs P) 37)
  have o1 := (Own.new' (W.alloc (Obj.cells (vs K) 23)) 36 (vs M) z1).alloc (Obj.cells (vs P) 37)
  have o2 := Own.new' ((W.alloc (Obj.cells (vs K) 23)).alloc (Obj.cells (vs M) 36)) 37 (vs P) z2
  have bW := (((Below.refl W.heap.size W).alloc (Nat.le_refl _) (Obj.cells (vs K) 23)).alloc (by omega) (Obj.cells (vs M) 36)).alloc (by omega) (Obj.cells (vs P) 37)
  have hal := alive_any (((W.alloc (Obj.cells (vs K) 23)).alloc (Obj.cells (vs M) 36)).alloc (Obj.cells (vs P) 37))
  have HZ := Lib.hid (And.intro z1 z2)
  have hs1 := fun w => ssplit_ok K (bs M) a hK lK hMs la (by omega) w
  rw [toN_bs hM] at hs1
  clear hK lK hM lM hP lP z1 z2 hMs
  have ea : 3 + (n : Int) % 20 = (a : Int) := by omega
  have HQ := Lib.hid (And.intro ha (And.intro e1 (And.intro e2 e3)))
  clear ha e1 e2 e3
  go_enter Try.func5, Try.ntmps5
  go_wp2_with fail
  refine hal.mono ?_
  rintro e w1 ⟨rfl, hb⟩
  replace bW := bW.trans (hb.mono bW.size)
  have r0 := (o0.below hb).rg
  have r1 := (o1.below hb).rg
  have r2 := (o2.below hb).rg
  clear o0 o1 o2 hal hb
  go_wp2_with fail
  replace r0 := r0.drew
  replace r1 := r1.drew
  replace r2 := r2.drew
  replace bW := bW.drew
  refine wp_region_held_drew (S := fun w' => Below w1.drew.heap.size w1.drew w') (by kernel_rfl) (Below.refl _ _) (fun hH => ?_)
  generalize w1.drew = w2 at *
  refine tkH (i := 0) rfl (by kernel_rfl) (by kernel_rfl) (by kernel_rfl) (fun _ _ _ h => h) hH (yld t23 (by rfl) rfl rfl K r0 HK.out.2) ?_
  try simp only [Act.put, List.setIfInBounds_toArray, List.set_cons_zero, List.set_cons_succ]
  refine tkH (v := ?_) (i := 1) rfl (by kernel_rfl) (by kernel_rfl) (by kernel_rfl) (fun _ _ _ h => h) hH (Or.inl ⟨by rfl, ?_⟩) ?_
  rotate_left
  · intro wq hq
    go_simp
    try rfl
  try simp only [Act.put, List.setIfInBounds_toArray, List.set_cons_zero, List.set_cons_succ]
  refine tkH (v := ?_) (i := 2) rfl (by kernel_rfl) (by kernel_rfl) (by kernel_rfl) (fun _ _ _ h => h) hH (Or.inl ⟨by rfl, ?_⟩) ?_
  rotate_left
  · intro wq hq
    go_simp
    try rfl
  try simp only [Act.put, List.setIfInBounds_toArray, List.set_cons_zero, List.set_cons_succ]
  refine tkH (v := ?_) (i := 3) rfl (by kernel_rfl) (by kernel_rfl) (by kernel_rfl) (fun _ _ _ h => h) hH (Or.inl ⟨by rfl, ?_⟩) ?_
  rotate_left
  · intro wq hq
    have hcv := conv_bs wq (W.heap.size + 1) 0 M 64 64 HM.out.2 (r1.below hq)
    go_simp
    try rfl
  try simp only [Act.put, List.setIfInBounds_toArray, List.set_cons_zero, List.set_cons_succ]
  refine efH (i := 4) rfl (by kernel_rfl) (by rfl) (fun KK hKK => ?_)
  go_simp
  refine (hs1 _).mono ?_
  rintro e w3 ⟨⟨A, c, rfl, s1, hc⟩, hx⟩
  have hH' := hH.trans (hx.mono hH.size)
  go_wp2_with fail
  refine hKK.out _ _ hH' (fun hH => ?_)
  clear hKK KK hH'
  try simp only [Act.put, List.setIfInBounds_toArray, List.set_cons_zero, List.set_cons_succ]
  refine tkH (v := ?_) (i := 5) rfl (by kernel_rfl) (by kernel_rfl) (by kernel_rfl) (fun _ _ _ h => h) hH (Or.inl ⟨by rfl, ?_⟩) ?_
  rotate_left
  · intro wq hq
    go_simp
    try rfl
  try simp only [Act.put, List.setIfInBounds_toArray, List.set_cons_zero, List.set_cons_succ]
  refine tkH (v := ?_) (i := 6) rfl (by kernel_rfl) (by kernel_rfl) (by kernel_rfl) (fun _ _ _ h => h) hH (Or.inl ⟨by rfl, ?_⟩) ?_
  rotate_left
  · intro wq hq
    go_simp
    try rfl
  try simp only [Act.put, List.setIfInBounds_toArray, List.set_cons_zero, List.set_cons_succ]
  refine tkH (v := ?_) (i := 7) rfl (by kernel_rfl) (by kernel_rfl) (by kernel_rfl) (fun _ _ _ h => h) hH (Or.inl ⟨by rfl, ?_⟩) ?_
  rotate_left
  · intro wq hq
    go_simp
    try rfl
  try simp only [Act.put, List.setIfInBounds_toArray, List.set_cons_zero, List.set_cons_succ]
  refine tkH (v := ?_) (i := 8) rfl (by kernel_rfl) (by kernel_rfl) (by kernel_rfl) (fun _ _ _ h => h) hH (Or.inl ⟨by rfl, ?_⟩) ?_
  rotate_left
  · intro wq hq
    go_simp
    try rfl
  try simp only [Act.put, List.setIfInBounds_toArray, List.set_cons_zero, List.set_cons_succ]
  refine tkH (v := ?_) (i := 9) rfl (by kernel_rfl) (by kernel_rfl) (by kernel_rfl) (fun _ _ _ h => h) hH (Or.inl ⟨by rfl, ?_⟩) ?_
  rotate_left
  · intro wq hq
    go_simp
    try rfl
  try simp only [Act.put, List.setIfInBounds_toArray, List.set_cons_zero, List.set_cons_succ]
  refine wpAnyH_done (by kernel_rfl) ?_ _
  try simp only [Act.put, List.getElem_toArray, List.getElem_cons_zero, List.getElem_cons_succ, List.setIfInBounds_toArray, List.set_cons_zero, List.set_cons_succ]
  replace bW := bW.trans (hH.mono bW.size)
  replace r0 := r0.below hH
  replace r1 := r1.below hH
  replace r2 := r2.below hH
  clear hs1 hx hH
  obtain ⟨b, o, rfl, hsh⟩ := share_at s1 ap
  have cp0 := r2.cell (i := 0) (by rw [HP.out.2]; omega)
  have cp1 := r2.cell (i := 1) (by rw [HP.out.2]; omega)
  have cp2 := r2.cell (i := 2) (by rw [HP.out.2]; omega)
  have v1 : Int.tmod (Gf.nth P 0 : Nat) (a : Int) = (q1 : Int) := by rw [HQ.out.2.1]; exact (Int.ofNat_tmod _ _).symm
  have v2 : Int.tmod (Gf.nth P 1 : Nat) (a : Int) = (q2 : Int) := by rw [HQ.out.2.2.1]; exact (Int.ofNat_tmod _ _).symm
  have v3 : Int.tmod (Gf.nth P 2 : Nat) (a : Int) = (q3 : Int) := by rw [HQ.out.2.2.2]; exact (Int.ofNat_tmod _ _).symm
  have u1 : (Gf.nth P 0 : Int) % (a : Int) = (q1 : Int) := by rw [HQ.out.2.1]; simp
  have u2 : (Gf.nth P 1 : Int) % (a : Int) = (q2 : Int) := by rw [HQ.out.2.2.1]; simp
  have u3 : (Gf.nth P 2 : Int) % (a : Int) = (q3 : Int) := by rw [HQ.out.2.2.2]; simp
  have an : ((a : Int) == 0) = false := by rw [beq_eq_false_iff_ne]; omega
  have i1 : (q1 : Int) < (a : Int) := by omega
  have i2 : (q2 : Int) < (a : Int) := by omega
  have i3 : (q3 : Int) < (a : Int) := by omega
  have rS := hsh q1 m1
  have rT := hsh q2 m2
  have rU := hsh q3 m3
  have l1 := Sx.shr_length K M (q1 + 1)
  have l2 := Sx.shr_length K M (q2 + 1)
  have l3 := Sx.shr_length K M (q3 + 1)
  have b1 := Sx.shr_bytes HK.out.1 HM.out.1 (show q1 + 1 < 256 by omega)
  have b2 := Sx.shr_bytes HK.out.1 HM.out.1 (show q2 + 1 < 256 by omega)
  have b3 := Sx.shr_bytes HK.out.1 HM.out.1 (show q3 + 1 < 256 by omega)
  have HB := Lib.hid (And.intro b1 (And.intro b2 b3))
  clear s1 hsh b1 b2 b3 r1 r2
  generalize Sx.shr K M (q1 + 1) = S at *
  generalize Sx.shr K M (q2 + 1) = T at *
  generalize Sx.shr K M (q3 + 1) = U at *
  have j0 := HP.out.1.at_ 0
  have j1 := HP.out.1.at_ 1
  have j2 := HP.out.1.at_ 2
  generalize Gf.nth P 0 = p0 at *
  generalize Gf.nth P 1 = p1 at *
  generalize Gf.nth P 2 = p2 at *
  have wp0 : wrap64 (p0 : Int) = (p0 : Int) := by unfold wrap64; omega
  have wp1 : wrap64 (p1 : Int) = (p1 : Int) := by unfold wrap64; omega
  have wp2 : wrap64 (p2 : Int) = (p2 : Int) := by unfold wrap64; omega
  clear j0 j1 j2
  go_wp2_with fail
  go_quiet (fail)
  have hd : Dr w3 (w3.drewN nq) := ⟨nq, rfl⟩
  replace bW := below_dr bW hd
  replace r0 := r0.dr hd
  replace rS := rS.dr hd
  replace rT := rT.dr hd
  replace rU := rU.dr hd
  clear hd cp0 cp1 cp2 wp0 wp1 wp2 v1 v2 v3 u1 u2 u3 an
  generalize w3.drewN nq = w4 at *
  go_wp2_with fail
  replace r0 := r0.drew
  replace rS := rS.drew
  replace rT := rT.drew
  replace rU := rU.drew
  replace bW := bW.drew
  refine wp_region_held_drew (S := fun w' => Below w4.drew.heap.size w4.drew w') (by kernel_rfl) (Below.refl _ _) (fun hH => ?_)
  generalize w4.drew = x0 at *
  refine tkH (v := ?_) (i := 0) rfl (by kernel_rfl) (by kernel_rfl) (by kernel_rfl) (fun _ _ _ h => h) hH (Or.inl ⟨by rfl, ?_⟩) ?_
  rotate_left
  · intro wq hq
    go_simp
    try rfl
  try simp only [Act.put, List.setIfInBounds_toArray, List.set_cons_zero, List.set_cons_succ]
  refine tkH (v := ?_) (i := 1) rfl (by kernel_rfl) (by kernel_rfl) (by kernel_rfl) (fun _ _ _ h => h) hH (Or.inl ⟨by rfl, ?_⟩) ?_
  rotate_left
  · intro wq hq
    go_simp
    try rfl
  try simp only [Act.put, List.setIfInBounds_toArray, List.set_cons_zero, List.set_cons_succ]
  refine tkH (v := ?_) (i := 2) rfl (by kernel_rfl) (by kernel_rfl) (by kernel_rfl) (fun _ _ _ h => h) hH (Or.inl ⟨by rfl, ?_⟩) ?_
  rotate_left
  · intro wq hq
    go_simp
    try rfl
  try simp only [Act.put, List.setIfInBounds_toArray, List.set_cons_zero, List.set_cons_succ]
  refine tkH (i := 3) rfl (by kernel_rfl) (by kernel_rfl) (by kernel_rfl) (fun _ _ _ h => h) hH (yld t34 (by rfl) rfl rfl S rS l1) ?_
  try simp only [Act.put, List.setIfInBounds_toArray, List.set_cons_zero, List.set_cons_succ]
  refine tkH (v := ?_) (i := 4) rfl (by kernel_rfl) (by kernel_rfl) (by kernel_rfl) (fun _ _ _ h => h) hH (Or.inl ⟨by rfl, ?_⟩) ?_
  rotate_left
  · intro wq hq
    go_simp
    try rfl
  try simp only [Act.put, List.setIfInBounds_toArray, List.set_cons_zero, List.set_cons_succ]
  refine tkH (v := ?_) (i := 5) rfl (by kernel_rfl) (by kernel_rfl) (by kernel_rfl) (fun _ _ _ h => h) hH (Or.inl ⟨by rfl, ?_⟩) ?_
  rotate_left
  · intro wq hq
    go_simp
    try rfl
  try simp only [Act.put, List.setIfInBounds_toArray, List.set_cons_zero, List.set_cons_succ]
  refine tkH (v := ?_) (i := 6) rfl (by kernel_rfl) (by kernel_rfl) (by kernel_rfl) (fun _ _ _ h => h) hH (Or.inl ⟨by rfl, ?_⟩) ?_
  rotate_left
  · intro wq hq
    go_simp
    try rfl
  try simp only [Act.put, List.setIfInBounds_toArray, List.set_cons_zero, List.set_cons_succ]
  refine tkH (i := 7) rfl (by kernel_rfl) (by kernel_rfl) (by kernel_rfl) (fun _ _ _ h => h) hH (yld t34 (by rfl) rfl rfl T rT l2) ?_
  try simp only [Act.put, List.setIfInBounds_toArray, List.set_cons_zero, List.set_cons_succ]
  refine tkH (v := ?_) (i := 8) rfl (by kernel_rfl) (by kernel_rfl) (by kernel_rfl) (fun _ _ _ h => h) hH (Or.inl ⟨by rfl, ?_⟩) ?_
  rotate_left
  · intro wq hq
    go_simp
    try rfl
  try simp only [Act.put, List.setIfInBounds_toArray, List.set_cons_zero, List.set_cons_succ]
  refine tkH (v := ?_) (i := 9) rfl (by kernel_rfl) (by kernel_rfl) (by kernel_rfl) (fun _ _ _ h => h) hH (Or.inl ⟨by rfl, ?_⟩) ?_
  rotate_left
  · intro wq hq
    go_simp
    try rfl
  try simp only [Act.put, List.setIfInBounds_toArray, List.set_cons_zero, List.set_cons_succ]
  refine tkH (v := ?_) (i := 10) rfl (by kernel_rfl) (by kernel_rfl) (by kernel_rfl) (fun _ _ _ h => h) hH (Or.inl ⟨by rfl, ?_⟩) ?_
  rotate_left
  · intro wq hq
    go_simp
    try rfl
  try simp only [Act.put, List.setIfInBounds_toArray, List.set_cons_zero, List.set_cons_succ]
  refine tkH (i := 11) rfl (by kernel_rfl) (by kernel_rfl) (by kernel_rfl) (fun _ _ _ h => h) hH (yld t34 (by rfl) rfl rfl U rU l3) ?_
  try simp only [Act.put, List.setIfInBounds_toArray, List.set_cons_zero, List.set_cons_succ]
  refine efH2 (i := 12) (j := 17) rfl rfl (by kernel_rfl) (by rfl) (by rfl) (fun KK hKK => ?_) (fun KK hKK => ?_)
  · refine wp_of_exec (exec_lit3 l1 l2 l3 rfl rfl rfl rfl x0) ?_
    refine hKK.out _ _ (hH.alloc hH.size _) (fun hH => ?_)
    clear hKK KK
    try simp only [Act.put, List.setIfInBounds_toArray, List.set_cons_zero, List.set_cons_succ]
    have oL := Own.new x0 34 (vs [S, T, U].flatten)
    generalize x0.alloc (Obj.cells (vs [S, T, U].flatten) 34) = x1 at *
    refine efH2 (i := 13) (j := 17) rfl rfl (by kernel_rfl) (by rfl) (by rfl) (fun KK hKK => ?_) (fun KK hKK => ?_)
    · go_simp
      refine (HJ.out _ _ (ss_lit l1 l2 l3 HB.out.1 HB.out.2.1 HB.out.2.2 oL)).mono ?_
      rintro e x2 ⟨rfl, hx⟩
      have hH' := hH.trans (hx.mono hH.size)
      go_wp2_with fail
      refine hKK.out _ _ hH' (fun hH => ?_)
      clear hKK KK hH' hx oL
      try simp only [Act.put, List.setIfInBounds_toArray, List.set_cons_zero, List.set_cons_succ]
      refine tkH (v := ?_) (i := 14) rfl (by kernel_rfl) (by kernel_rfl) (by kernel_rfl) (fun _ _ _ h => h) hH (Or.inl ⟨by rfl, ?_⟩) ?_
      rotate_left
      · intro wq hq
        go_simp
        try rfl
      try simp only [Act.put, List.setIfInBounds_toArray, List.set_cons_zero, List.set_cons_succ]
      refine tkH (v := ?_) (i := 15) rfl (by kernel_rfl) (by kernel_rfl) (by kernel_rfl) (fun _ _ _ h => h) hH (Or.inl ⟨by rfl, ?_⟩) ?_
      rotate_left
      · intro wq hq
        go_simp
        try rfl
      try simp only [Act.put, List.setIfInBounds_toArray, List.set_cons_zero, List.set_cons_succ]
      refine tkH (v := ?_) (i := 16) rfl (by kernel_rfl) (by kernel_rfl) (by kernel_rfl) (fun _ _ _ h => h) hH (Or.inl ⟨by rfl, ?_⟩) ?_
      rotate_left
      · intro wq hq
        go_simp
        try rfl
      try simp only [Act.put, List.setIfInBounds_toArray, List.set_cons_zero, List.set_cons_succ]
      refine efH (i := 17) rfl (by kernel_rfl) (by rfl) (fun KK hKK => ?_)
      refine wp_of_exec (exec_new z23 rfl x2) ?_
      have hle := hH.size
      refine hKK.out _ _ (hH.alloc hH.size _) (fun hH => ?_)
      clear hKK KK
      try simp only [Act.put, List.setIfInBounds_toArray, List.set_cons_zero, List.set_cons_succ]
      have oN := Own.new x2 23 (vs (zs 32))
      generalize x2.alloc (Obj.cells (vs (zs 32)) 23) = x3 at *
      refine efH (i := 18) rfl (by kernel_rfl) (by rfl) (fun KK hKK => ?_)
      refine wp_store_row 23 _ _ rfl x2.heap.size (vs Z) rfl rfl 23 (vs (zs 32)) oN (by rw [t23.siz, vs_size, lz]) (by rw [vs_size, vs_size, zs_length, lz]) (vs_one _) ?_
      refine hKK.out _ _ (below_row hH hle _) (fun hH => ?_)
      clear hKK KK hle
      replace oN := oN.row (vs Z)
      generalize x3.setRow x2.heap.size (vs Z) = xf at *
      try simp only [Act.put, List.setIfInBounds_toArray, List.set_cons_zero, List.set_cons_succ]
      refine tkH (v := ?_) (i := 19) rfl (by kernel_rfl) (by kernel_rfl) (by kernel_rfl) (fun _ _ _ h => h) hH (Or.inl ⟨by rfl, ?_⟩) ?_
      rotate_left
      · intro wq hq
        go_simp
        try rfl
      try simp only [Act.put, List.setIfInBounds_toArray, List.set_cons_zero, List.set_cons_succ]
      refine wpAnyH_done (by kernel_rfl) ?_ _
      try simp only [Act.put, List.getElem_toArray, List.getElem_cons_zero, List.getElem_cons_succ, List.setIfInBounds_toArray, List.set_cons_zero, List.set_cons_succ]
      have rN := oN.rg
      replace bW := bW.trans (hH.mono bW.size)
      have hZ2 := HZE.out
      clear hH rS rT rU oN r0
      go_wp2_with (first | (refine ldw t23 rfl rfl rfl rN lz ?_) | (refine bldw rfl rfl ?_; rw [← hZ2]) | (refine cmpw cmp23 false Z Z rfl rfl rfl rfl lz lz bz bz ?_))
      go_ret
      exact ⟨rfl, bW⟩
    · refine wp_of_exec (exec_new z23 rfl x1) ?_
      have hle := hH.size
      refine hKK.out _ _ (hH.alloc hH.size _) (fun hH => ?_)
      clear hKK KK
      try simp only [Act.put, List.setIfInBounds_toArray, List.set_cons_zero, List.set_cons_succ]
      have oN := Own.new x1 23 (vs (zs 32))
      replace oL := oL.alloc (Obj.cells (vs (zs 32)) 23)
      generalize x1.alloc (Obj.cells (vs (zs 32)) 23) = x2 at *
      refine efH (i := 13) rfl (by kernel_rfl) (by rfl) (fun KK hKK => ?_)
      go_simp
      refine (HJ.out _ _ (ss_lit l1 l2 l3 HB.out.1 HB.out.2.1 HB.out.2.2 oL)).mono ?_
      rintro e x3 ⟨rfl, hx⟩
      have hH' := hH.trans (hx.mono hH.size)
      go_wp2_with fail
      refine hKK.out _ _ hH' (fun hH => ?_)
      replace oN := oN.below hx
      clear hKK KK hH' hx oL
      try simp only [Act.put, List.setIfInBounds_toArray, List.set_cons_zero, List.set_cons_succ]
      refine tkH (v := ?_) (i := 14) rfl (by kernel_rfl) (by kernel_rfl) (by kernel_rfl) (fun _ _ _ h => h) hH (Or.inl ⟨by rfl, ?_⟩) ?_
      rotate_left
      · intro wq hq
        go_simp
        try rfl
      try simp only [Act.put, List.setIfInBounds_toArray, List.set_cons_zero, List.set_cons_succ]
      refine tkH (v := ?_) (i := 15) rfl (by kernel_rfl) (by kernel_rfl) (by kernel_rfl) (fun _ _ _ h => h) hH (Or.inl ⟨by rfl, ?_⟩) ?_
      rotate_left
      · intro wq hq
        go_simp
        try rfl
      try simp only [Act.put, List.setIfInBounds_toArray, List.set_cons_zero, List.set_cons_succ]
      refine tkH (v := ?_) (i := 16) rfl (by kernel_rfl) (by kernel_rfl) (by kernel_rfl) (fun _ _ _ h => h) hH (Or.inl ⟨by rfl, ?_⟩) ?_
      rotate_left
      · intro wq hq
        go_simp
        try rfl
      try simp only [Act.put, List.setIfInBounds_toArray, List.set_cons_zero, List.set_cons_succ]
      refine efH (i := 18) rfl (by kernel_rfl) (by rfl) (fun KK hKK => ?_)
      refine wp_store_row 23 _ _ rfl x1.heap.size (vs Z) rfl rfl 23 (vs (zs 32)) oN (by rw [t23.siz, vs_size, lz]) (by rw [vs_size, vs_size, zs_length, lz]) (vs_one _) ?_
      refine hKK.out _ _ (below_row hH hle _) (fun hH => ?_)
      clear hKK KK hle
      replace oN := oN.row (vs Z)
      generalize x3.setRow x1.heap.size (vs Z) = xf at *
      try simp only [Act.put, List.setIfInBounds_toArray, List.set_cons_zero, List.set_cons_succ]
      refine tkH (v := ?_) (i := 19) rfl (by kernel_rfl) (by kernel_rfl) (by kernel_rfl) (fun _ _ _ h => h) hH (Or.inl ⟨by rfl, ?_⟩) ?_
      rotate_left
      · intro wq hq
        go_simp
        try rfl
      try simp only [Act.put, List.setIfInBounds_toArray, List.set_cons_zero, List.set_cons_succ]
      refine wpAnyH_done (by kernel_rfl) ?_ _
      try simp only [Act.put, List.getElem_toArray, List.getElem_cons_zero, List.getElem_cons_succ, List.setIfInBounds_toArray, List.set_cons_zero, List.set_cons_succ]
      have rN := oN.rg
      replace bW := bW.trans (hH.mono bW.size)
      have hZ2 := HZE.out
      clear hH rS rT rU oN r0
      go_wp2_with (first | (refine ldw t23 rfl rfl rfl rN lz ?_) | (refine bldw rfl rfl ?_; rw [← hZ2]) | (refine cmpw cmp23 false Z Z rfl rfl rfl rfl lz lz bz bz ?_))
      go_ret
      exact ⟨rfl, bW⟩
  · refine wp_of_exec (exec_new z23 rfl x0) ?_
    have hle := hH.size
    refine hKK.out _ _ (hH.alloc hH.size _) (fun hH => ?_)
    clear hKK KK
    try simp only [Act.put, List.setIfInBounds_toArray, List.set_cons_zero, List.set_cons_succ]
    have oN := Own.new x0 23 (vs (zs 32))
    generalize x0.alloc (Obj.cells (vs (zs 32)) 23) = x1 at *
    refine efH (i := 12) rfl (by kernel_rfl) (by rfl) (fun KK hKK => ?_)
    refine wp_of_exec (exec_lit3 l1 l2 l3 rfl rfl rfl rfl x1) ?_
    refine hKK.out _ _ (hH.alloc hH.size _) (fun hH => ?_)
    clear hKK KK
    try simp only [Act.put, List.setIfInBounds_toArray, List.set_cons_zero, List.set_cons_succ]
    have oL := Own.new x1 34 (vs [S, T, U].flatten)
    replace oN := oN.alloc (Obj.cells (vs [S, T, U].flatten) 34)
    generalize x1.alloc (Obj.cells (vs [S, T, U].flatten) 34) = x2 at *
    refine efH (i := 13) rfl (by kernel_rfl) (by rfl) (fun KK hKK => ?_)
    go_simp
    refine (HJ.out _ _ (ss_lit l1 l2 l3 HB.out.1 HB.out.2.1 HB.out.2.2 oL)).mono ?_
    rintro e x3 ⟨rfl, hx⟩
    have hH' := hH.trans (hx.mono hH.size)
    go_wp2_with fail
    refine hKK.out _ _ hH' (fun hH => ?_)
    replace oN := oN.below hx
    clear hKK KK hH' hx oL
    try simp only [Act.put, List.setIfInBounds_toArray, List.set_cons_zero, List.set_cons_succ]
    refine tkH (v := ?_) (i := 14) rfl (by kernel_rfl) (by kernel_rfl) (by kernel_rfl) (fun _ _ _ h => h) hH (Or.inl ⟨by rfl, ?_⟩) ?_
    rotate_left
    · intro wq hq
      go_simp
      try rfl
    try simp only [Act.put, List.setIfInBounds_toArray, List.set_cons_zero, List.set_cons_succ]
    refine tkH (v := ?_) (i := 15) rfl (by kernel_rfl) (by kernel_rfl) (by kernel_rfl) (fun _ _ _ h => h) hH (Or.inl ⟨by rfl, ?_⟩) ?_
    rotate_left
    · intro wq hq
      go_simp
      try rfl
    try simp only [Act.put, List.setIfInBounds_toArray, List.set_cons_zero, List.set_cons_succ]
    refine tkH (v := ?_) (i := 16) rfl (by kernel_rfl) (by kernel_rfl) (by kernel_rfl) (fun _ _ _ h => h) hH (Or.inl ⟨by rfl, ?_⟩) ?_
    rotate_left
    · intro wq hq
      go_simp
      try rfl
    try simp only [Act.put, List.setIfInBounds_toArray, List.set_cons_zero, List.set_cons_succ]
    refine efH (i := 18) rfl (by kernel_rfl) (by rfl) (fun KK hKK => ?_)
    refine wp_store_row 23 _ _ rfl x0.heap.size (vs Z) rfl rfl 23 (vs (zs 32)) oN (by rw [t23.siz, vs_size, lz]) (by rw [vs_size, vs_size, zs_length, lz]) (vs_one _) ?_
    refine hKK.out _ _ (below_row hH hle _) (fun hH => ?_)
    clear hKK KK hle
    replace oN := oN.row (vs Z)
    generalize x3.setRow x0.heap.size (vs Z) = xf at *
    try simp only [Act.put, List.setIfInBounds_toArray, List.set_cons_zero, List.set_cons_succ]
    refine tkH (v := ?_) (i := 19) rfl (by kernel_rfl) (by kernel_rfl) (by kernel_rfl) (fun _ _ _ h => h) hH (Or.inl ⟨by rfl, ?_⟩) ?_
    rotate_left
    · intro wq hq
      go_simp
      try rfl
    try simp only [Act.put, List.setIfInBounds_toArray, List.set_cons_zero, List.set_cons_succ]
    refine wpAnyH_done (by kernel_rfl) ?_ _
    try simp only [Act.put, List.getElem_toArray, List.getElem_cons_zero, List.getElem_cons_succ, List.setIfInBounds_toArray, List.set_cons_zero, List.set_cons_succ]
    have rN := oN.rg
    replace bW := bW.trans (hH.mono bW.size)
    have hZ2 := HZE.out
    clear hH rS rT rU oN r0
    go_wp2_with (first | (refine ldw t23 rfl rfl rfl rN lz ?_) | (refine bldw rfl rfl ?_; rw [← hZ2]) | (refine cmpw cmp23 false Z Z rfl rfl rfl rfl lz lz bz bz ?_))
    go_ret
    exact ⟨rfl, bW⟩
set_option maxRecDepth 100000 in
set_option maxHeartbeats 8000000 in
theorem walk_no3 (K M : List Nat) (n : Nat) (P : List Nat) (hK : Gf.Bytes K) (lK : K.length = 32) (hM : Gf.Bytes M) (lM : M.length = 64) (hn : n < 256) (hP : Gf.Bytes P) (lP : P.length = 3) (W : World)
    (a q1 q2 q3 : Nat) (ha : a = 3 + n % 20) (e1 : q1 = Gf.nth P 0 % a) (e2 : q2 = Gf.nth P 1 % a) (e3 : q3 = Gf.nth P 2 % a) (d12 : q1 ≠ q2) (d13 : q1 ≠ q3) (d23 : q2 = q3) :
    Calls Try.prog 5 #[.agg (vs K), .agg (vs M), .int .u8 (n : Int), .agg (vs P)] W fun e w' => e = .returned (.bool true) ∧ Below W.heap.size W w' := by
  have HK := Lib.hid (And.intro hK lK)
  have HM := Lib.hid (And.intro hM lM)
  have HP := Lib.hid (And.intro hP lP)
  have hMs : (bs M).size = 64 := by rw [bs_size, lM]
  have la : 3 ≤ a := by omega
  have ua : a ≤ 22 := by omega
  have ap : 0 < a := by omega
  have m1 : q1 < a := by rw [e1]; exact Nat.mod_lt _ ap
  have m2 : q2 < a := by rw [e2]; exact Nat.mod_lt _ ap
  have m3 : q3 < a := by rw [e3]; exact Nat.mod_lt _ ap
  have hok : Sx.ok3 (Gf.nth (Sx.shr K M (q1 + 1)) 0) (Gf.nth (Sx.shr K M (q2 + 1)) 0) (Gf.nth (Sx.shr K M (q3 + 1)) 0) = false := by
    rw [Sx.shr_head, Sx.shr_head, Sx.shr_head, Bool.eq_false_iff]
    intro h
    rw [Sx.ok3_iff] at h
    omega
  obtain ⟨Z, hZe⟩ : ∃ Z, Z = zs 32 := ⟨_, rfl⟩
  have hj : ∀ A w, Ss w A 3 [Sx.shr K M (q1 + 1), Sx.shr K M (q2 + 1), Sx.shr K M (q3 + 1)] → Calls Try.prog 14 #[.slice A 3 3] w fun e w' => e = .returned (.tuple #[.agg (vs Z), .int .i64 1]) ∧ Below w.heap.size w w' := fun A w h => (sjoin3 A 3 _ _ _ w h).mono fun e w' hh => ⟨by rw [jis_no hok hh.1, hZe], hh.2⟩
  have lz : Z.length = 32 := by rw [hZe]; exact zs_length _
  have bz : Gf.Bytes Z := by rw [hZe]; exact zs_bytes _
  have HJ := Lib.hid hj
  have HZE := Lib.hid hZe
  clear hj hZe
  have t12 := eqz' q1 q2 d12
  have t13 := eqz' q1 q3 d13
  have t23' := eqz q2 q3 d23
  clear hok d12 d13 d23
  have z1 : W.heap.size + 1 = (W.alloc (Obj.cells (vs K) 23)).heap.size := sz1 _ _
  have z2 : W.heap.size + 1 + 1 = ((W.alloc (Obj.cells (vs K) 23)).alloc (Obj.cells (vs M) 36)).heap.size := by rw [z1]; exact sz1 _ _
  have o0 := ((Own.new W 23 (vs K)).alloc (Obj.cells (vs M) 36)).alloc (Obj.cells (vs P) 37)
  have o1 := (Own.new' (W.alloc (Obj.cells (vs K) 23)) 36 (vs M) z1).alloc (Obj.cells (vs P) 37)
  have o2 := Own.new' ((W.alloc (Obj.cells (vs K) 23)).alloc (Obj.cells (vs M) 36)) 37 (vs P) z2
  have bW := (((Below.refl W.heap.size W).alloc (Nat.le_refl _) (Obj.cells (vs K) 23)).alloc (by omega) (Obj.cells (vs M) 36)).alloc (by omega) (Obj.cells (vs P) 37)
  have hal := alive_any (((W.alloc (Obj.cells (vs K) 23)).alloc (Obj.cells (vs M) 36)).alloc (Obj.cells (vs P) 37))
  have HZ := Lib.hid (And.intro z1 z2)
  have hs1 := fun w => ssplit_ok K (bs M) a hK lK hMs la (by omega) w
  rw [toN_bs hM] at hs1
  clear hK lK hM lM hP lP z1 z2 hMs
  have ea : 3 + (n : Int) % 20 = (a : Int) := by omega
  have HQ := Lib.hid (And.intro ha (And.intro e1 (And.intro e2 e3)))
  clear ha e1 e2 e3
  go_enter Try.func5, Try.ntmps5
  go_wp2_with fail
  refine hal.mono ?_
  rintro e w1 ⟨rfl, hb⟩
  replace bW := bW.trans (hb.mono bW.size)
  have r0 := (o0.below hb).rg
  have r1 := (o1.below hb).rg
  have r2 := (o2.below hb).rg
  clear o0 o1 o2 hal hb
  go_wp2_with fail
  replace r0 := r0.drew
  replace r1 := r1.drew
  replace r2 := r2.drew
  replace bW := bW.drew
  refine wp_region_held_drew (S := fun w' => Below w1.drew.heap.size w1.drew w') (by kernel_rfl) (Below.refl _ _) (fun hH => ?_)
  generalize w1.drew = w2 at *
  refine tkH (i := 0) rfl (by kernel_rfl) (by kernel_rfl) (by kernel_rfl) (fun _ _ _ h => h) hH (yld t23 (by rfl) rfl rfl K r0 HK.out.2) ?_
  try simp only [Act.put, List.setIfInBounds_toArray, List.set_cons_zero, List.set_cons_succ]
  refine tkH (v := ?_) (i := 1) rfl (by kernel_rfl) (by kernel_rfl) (by kernel_rfl) (fun _ _ _ h => h) hH (Or.inl ⟨by rfl, ?_⟩) ?_
  rotate_left
  · intro wq hq
    go_simp
    try rfl
  try simp only [Act.put, List.setIfInBounds_toArray, List.set_cons_zero, List.set_cons_succ]
  refine tkH (v := ?_) (i := 2) rfl (by kernel_rfl) (by kernel_rfl) (by kernel_rfl) (fun _ _ _ h => h) hH (Or.inl ⟨by rfl, ?_⟩) ?_
  rotate_left
  · intro wq hq
    go_simp
    try rfl
  try simp only [Act.put, List.setIfInBounds_toArray, List.set_cons_zero, List.set_cons_succ]
  refine tkH (v := ?_) (i := 3) rfl (by kernel_rfl) (by kernel_rfl) (by kernel_rfl) (fun _ _ _ h => h) hH (Or.inl ⟨by rfl, ?_⟩) ?_
  rotate_left
  · intro wq hq
    have hcv := conv_bs wq (W.heap.size + 1) 0 M 64 64 HM.out.2 (r1.below hq)
    go_simp
    try rfl
  try simp only [Act.put, List.setIfInBounds_toArray, List.set_cons_zero, List.set_cons_succ]
  refine efH (i := 4) rfl (by kernel_rfl) (by rfl) (fun KK hKK => ?_)
  go_simp
  refine (hs1 _).mono ?_
  rintro e w3 ⟨⟨A, c, rfl, s1, hc⟩, hx⟩
  have hH' := hH.trans (hx.mono hH.size)
  go_wp2_with fail
  refine hKK.out _ _ hH' (fun hH => ?_)
  clear hKK KK hH'
  try simp only [Act.put, List.setIfInBounds_toArray, List.set_cons_zero, List.set_cons_succ]
  refine tkH (v := ?_) (i := 5) rfl (by kernel_rfl) (by kernel_rfl) (by kernel_rfl) (fun _ _ _ h => h) hH (Or.inl ⟨by rfl, ?_⟩) ?_
  rotate_left
  · intro wq hq
    go_simp
    try rfl
  try simp only [Act.put, List.setIfInBounds_toArray, List.set_cons_zero, List.set_cons_succ]
  refine tkH (v := ?_) (i := 6) rfl (by kernel_rfl) (by kernel_rfl) (by kernel_rfl) (fun _ _ _ h => h) hH (Or.inl ⟨by rfl, ?_⟩) ?_
  rotate_left
  · intro wq hq
    go_simp
    try rfl
  try simp only [Act.put, List.setIfInBounds_toArray, List.set_cons_zero, List.set_cons_succ]
  refine tkH (v := ?_) (i := 7) rfl (by kernel_rfl) (by kernel_rfl) (by kernel_rfl) (fun _ _ _ h => h) hH (Or.inl ⟨by rfl, ?_⟩) ?_
  rotate_left
  · intro wq hq
    go_simp
    try rfl
  try simp only [Act.put, List.setIfInBounds_toArray, List.set_cons_zero, List.set_cons_succ]
  refine tkH (v := ?_) (i := 8) rfl (by kernel_rfl) (by kernel_rfl) (by kernel_rfl) (fun _ _ _ h => h) hH (Or.inl ⟨by rfl, ?_⟩) ?_
  rotate_left
  · intro wq hq
    go_simp
    try rfl
  try simp only [Act.put, List.setIfInBounds_toArray, List.set_cons_zero, List.set_cons_succ]
  refine tkH (v := ?_) (i := 9) rfl (by kernel_rfl) (by kernel_rfl) (by kernel_rfl) (fun _ _ _ h => h) hH (Or.inl ⟨by rfl, ?_⟩) ?_
  rotate_left
  · intro wq hq
    go_simp
    try rfl
  try simp only [Act.put, List.setIfInBounds_toArray, List.set_cons_zero, List.set_cons_succ]
  refine wpAnyH_done (by kernel_rfl) ?_ _
  try simp only [Act.put, List.getElem_toArray, List.getElem_cons_zero, List.getElem_cons_succ, List.setIfInBounds_toArray, List.set_cons_zero, List.set_cons_succ]
  replace bW := bW.trans (hH.mono bW.size)
  replace r0 := r0.below hH
  replace r1 := r1.below hH
  replace r2 := r2.below hH
  clear hs1 hx hH
  obtain ⟨b, o, rfl, hsh⟩ := share_at s1 ap
  have cp0 := r2.cell (i := 0) (by rw [HP.out.2]; omega)
  have cp1 := r2.cell (i := 1) (by rw [HP.out.2]; omega)
  have cp2 := r2.cell (i := 2) (by rw [HP.out.2]; omega)
  have v1 : Int.tmod (Gf.nth P 0 : Nat) (a : Int) = (q1 : Int) := by rw [HQ.out.2.1]; exact (Int.ofNat_tmod _ _).symm
  have v2 : Int.tmod (Gf.nth P 1 : Nat) (a : Int) = (q2 : Int) := by rw [HQ.out.2.2.1]; exact (Int.ofNat_tmod _ _).symm
  have v3 : Int.tmod (Gf.nth P 2 : Nat) (a : Int) = (q3 : Int) := by rw [HQ.out.2.2.2]; exact (Int.ofNat_tmod _ _).symm
  have u1 : (Gf.nth P 0 : Int) % (a : Int) = (q1 : Int) := by rw [HQ.out.2.1]; simp
  have u2 : (Gf.nth P 1 : Int) % (a : Int) = (q2 : Int) := by rw [HQ.out.2.2.1]; simp
  have u3 : (Gf.nth P 2 : Int) % (a : Int) = (q3 : Int) := by rw [HQ.out.2.2.2]; simp
  have an : ((a : Int) == 0) = false := by rw [beq_eq_false_iff_ne]; omega
  have i1 : (q1 : Int) < (a : Int) := by omega
  have i2 : (q2 : Int) < (a : Int) := by omega
  have i3 : (q3 : Int) < (a : Int) := by omega
  have rS := hsh q1 m1
  have rT := hsh q2 m2
  have rU := hsh q3 m3
  have l1 := Sx.shr_length K M (q1 + 1)
  have l2 := Sx.shr_length K M (q2 + 1)
  have l3 := Sx.shr_length K M (q3 + 1)
  have b1 := Sx.shr_bytes HK.out.1 HM.out.1 (show q1 + 1 < 256 by omega)
  have b2 := Sx.shr_bytes HK.out.1 HM.out.1 (show q2 + 1 < 256 by omega)
  have b3 := Sx.shr_bytes HK.out.1 HM.out.1 (show q3 + 1 < 256 by omega)
  have HB := Lib.hid (And.intro b1 (And.intro b2 b3))
  clear s1 hsh b1 b2 b3 r1 r2
  generalize Sx.shr K M (q1 + 1) = S at *
  generalize Sx.shr K M (q2 + 1) = T at *
  generalize Sx.shr K M (q3 + 1) = U at *
  have j0 := HP.out.1.at_ 0
  have j1 := HP.out.1.at_ 1
  have j2 := HP.out.1.at_ 2
  generalize Gf.nth P 0 = p0 at *
  generalize Gf.nth P 1 = p1 at *
  generalize Gf.nth P 2 = p2 at *
  have wp0 : wrap64 (p0 : Int) = (p0 : Int) := by unfold wrap64; omega
  have wp1 : wrap64 (p1 : Int) = (p1 : Int) := by unfold wrap64; omega
  have wp2 : wrap64 (p2 : Int) = (p2 : Int) := by unfold wrap64; omega
  clear j0 j1 j2
  go_wp2_with fail
  go_quiet (fail)
  have hd : Dr w3 (w3.drewN nq) := ⟨nq, rfl⟩
  replace bW := below_dr bW hd
  replace r0 := r0.dr hd
  replace rS := rS.dr hd
  replace rT := rT.dr hd
  replace rU := rU.dr hd
  clear hd cp0 cp1 cp2 wp0 wp1 wp2 v1 v2 v3 u1 u2 u3 an
  generalize w3.drewN nq = w4 at *
  go_wp2_with fail
  replace r0 := r0.drew
  replace rS := rS.drew
  replace rT := rT.drew
  replace rU := rU.drew
  replace bW := bW.drew
  refine wp_region_held_drew (S := fun w' => Below w4.drew.heap.size w4.drew w') (by kernel_rfl) (Below.refl _ _) (fun hH => ?_)
  generalize w4.drew = x0 at *
  refine tkH (v := ?_) (i := 0) rfl (by kernel_rfl) (by kernel_rfl) (by kernel_rfl) (fun _ _ _ h => h) hH (Or.inl ⟨by rfl, ?_⟩) ?_
  rotate_left
  · intro wq hq
    go_simp
    try rfl
  try simp only [Act.put, List.setIfInBounds_toArray, List.set_cons_zero, List.set_cons_succ]
  refine tkH (v := ?_) (i := 1) rfl (by kernel_rfl) (by kernel_rfl) (by kernel_rfl) (fun _ _ _ h => h) hH (Or.inl ⟨by rfl, ?_⟩) ?_
  rotate_left
  · intro wq hq
    go_simp
    try rfl
  try simp only [Act.put, List.setIfInBounds_toArray, List.set_cons_zero, List.set_cons_succ]
  refine tkH (v := ?_) (i := 2) rfl (by kernel_rfl) (by kernel_rfl) (by kernel_rfl) (fun _ _ _ h => h) hH (Or.inl ⟨by rfl, ?_⟩) ?_
  rotate_left
  · intro wq hq
    go_simp
    try rfl
  try simp only [Act.put, List.setIfInBounds_toArray, List.set_cons_zero, List.set_cons_succ]
  refine tkH (i := 3) rfl (by kernel_rfl) (by kernel_rfl) (by kernel_rfl) (fun _ _ _ h => h) hH (yld t34 (by rfl) rfl rfl S rS l1) ?_
  try simp only [Act.put, List.setIfInBounds_toArray, List.set_cons_zero, List.set_cons_succ]
  refine tkH (v := ?_) (i := 4) rfl (by kernel_rfl) (by kernel_rfl) (by kernel_rfl) (fun _ _ _ h => h) hH (Or.inl ⟨by rfl, ?_⟩) ?_
  rotate_left
  · intro wq hq
    go_simp
    try rfl
  try simp only [Act.put, List.setIfInBounds_toArray, List.set_cons_zero, List.set_cons_succ]
  refine tkH (v := ?_) (i := 5) rfl (by kernel_rfl) (by kernel_rfl) (by kernel_rfl) (fun _ _ _ h => h) hH (Or.inl ⟨by rfl, ?_⟩) ?_
  rotate_left
  · intro wq hq
    go_simp
    try rfl
  try simp only [Act.put, List.setIfInBounds_toArray, List.set_cons_zero, List.set_cons_succ]
  refine tkH (v := ?_) (i := 6) rfl (by kernel_rfl) (by kernel_rfl) (by kernel_rfl) (fun _ _ _ h => h) hH (Or.inl ⟨by rfl, ?_⟩) ?_
  rotate_left
  · intro wq hq
    go_simp
    try rfl
  try simp only [Act.put, List.setIfInBounds_toArray, List.set_cons_zero, List.set_cons_succ]
  refine tkH (i := 7) rfl (by kernel_rfl) (by kernel_rfl) (by kernel_rfl) (fun _ _ _ h => h) hH (yld t34 (by rfl) rfl rfl T rT l2) ?_
  try simp only [Act.put, List.setIfInBounds_toArray, List.set_cons_zero, List.set_cons_succ]
  refine tkH (v := ?_) (i := 8) rfl (by kernel_rfl) (by kernel_rfl) (by kernel_rfl) (fun _ _ _ h => h) hH (Or.inl ⟨by rfl, ?_⟩) ?_
  rotate_left
  · intro wq hq
    go_simp
    try rfl
  try simp only [Act.put, List.setIfInBounds_toArray, List.set_cons_zero, List.set_cons_succ]
  refine tkH (v := ?_) (i := 9) rfl (by kernel_rfl) (by kernel_rfl) (by kernel_rfl) (fun _ _ _ h => h) hH (Or.inl ⟨by rfl, ?_⟩) ?_
  rotate_left
  · intro wq hq
    go_simp
    try rfl
  try simp only [Act.put, List.setIfInBounds_toArray, List.set_cons_zero, List.set_cons_succ]
  refine tkH (v := ?_) (i := 10) rfl (by kernel_rfl) (by kernel_rfl) (by kernel_rfl) (fun _ _ _ h => h) hH (Or.inl ⟨by rfl, ?_⟩) ?_
  rotate_left
  · intro wq hq
    go_simp
    try rfl
  try simp only [Act.put, List.setIfInBounds_toArray, List.set_cons_zero, List.set_cons_succ]
  refine tkH (i := 11) rfl (by kernel_rfl) (by kernel_rfl) (by kernel_rfl) (fun _ _ _ h => h) hH (yld t34 (by rfl) rfl rfl U rU l3) ?_
  try simp only [Act.put, List.setIfInBounds_toArray, List.set_cons_zero, List.set_cons_succ]
  refine efH2 (i := 12) (j := 17) rfl rfl (by kernel_rfl) (by rfl) (by rfl) (fun KK hKK => ?_) (fun KK hKK => ?_)
  · refine wp_of_exec (exec_lit3 l1 l2 l3 rfl rfl rfl rfl x0) ?_
    refine hKK.out _ _ (hH.alloc hH.size _) (fun hH => ?_)
    clear hKK KK
    try simp only [Act.put, List.setIfInBounds_toArray, List.set_cons_zero, List.set_cons_succ]
    have oL := Own.new x0 34 (vs [S, T, U].flatten)
    generalize x0.alloc (Obj.cells (vs [S, T, U].flatten) 34) = x1 at *
    refine efH2 (i := 13) (j := 17) rfl rfl (by kernel_rfl) (by rfl) (by rfl) (fun KK hKK => ?_) (fun KK hKK => ?_)
    · go_simp
      refine (HJ.out _ _ (ss_lit l1 l2 l3 HB.out.1 HB.out.2.1 HB.out.2.2 oL)).mono ?_
      rintro e x2 ⟨rfl, hx⟩
      have hH' := hH.trans (hx.mono hH.size)
      go_wp2_with fail
      refine hKK.out _ _ hH' (fun hH => ?_)
      clear hKK KK hH' hx oL
      try simp only [Act.put, List.setIfInBounds_toArray, List.set_cons_zero, List.set_cons_succ]
      refine tkH (v := ?_) (i := 14) rfl (by kernel_rfl) (by kernel_rfl) (by kernel_rfl) (fun _ _ _ h => h) hH (Or.inl ⟨by rfl, ?_⟩) ?_
      rotate_left
      · intro wq hq
        go_simp
        try rfl
      try simp only [Act.put, List.setIfInBounds_toArray, List.set_cons_zero, List.set_cons_succ]
      refine tkH (v := ?_) (i := 15) rfl (by kernel_rfl) (by kernel_rfl) (by kernel_rfl) (fun _ _ _ h => h) hH (Or.inl ⟨by rfl, ?_⟩) ?_
      rotate_left
      · intro wq hq
        go_simp
        try rfl
      try simp only [Act.put, List.setIfInBounds_toArray, List.set_cons_zero, List.set_cons_succ]
      refine tkH (v := ?_) (i := 16) rfl (by kernel_rfl) (by kernel_rfl) (by kernel_rfl) (fun _ _ _ h => h) hH (Or.inl ⟨by rfl, ?_⟩) ?_
      rotate_left
      · intro wq hq
        go_simp
        try rfl
      try simp only [Act.put, List.setIfInBounds_toArray, List.set_cons_zero, List.set_cons_succ]
      refine efH (i := 17) rfl (by kernel_rfl) (by rfl) (fun KK hKK => ?_)
      refine wp_of_exec (exec_new z23 rfl x2) ?_
      have hle := hH.size
      refine hKK.out _ _ (hH.alloc hH.size _) (fun hH => ?_)
      clear hKK KK
      try simp only [Act.put, List.setIfInBounds_toArray, List.set_cons_zero, List.set_cons_succ]
      have oN := Own.new x2 23 (vs (zs 32))
      generalize x2.alloc (Obj.cells (vs (zs 32)) 23) = x3 at *
      refine efH (i := 18) rfl (by kernel_rfl) (by rfl) (fun KK hKK => ?_)
      refine wp_store_row 23 _ _ rfl x2.heap.size (vs Z) rfl rfl 23 (vs (zs 32)) oN (by rw [t23.siz, vs_size, lz]) (by rw [vs_size, vs_size, zs_length, lz]) (vs_one _) ?_
      refine hKK.out _ _ (below_row hH hle _) (fun hH => ?_)
      clear hKK KK hle
      replace oN := oN.row (vs Z)
      generalize x3.setRow x2.heap.size (vs Z) = xf at *
      try simp only [Act.put, List.setIfInBounds_toArray, List.set_cons_zero, List.set_cons_succ]
      refine tkH (v := ?_) (i := 19) rfl (by kernel_rfl) (by kernel_rfl) (by kernel_rfl) (fun _ _ _ h => h) hH (Or.inl ⟨by rfl, ?_⟩) ?_
      rotate_left
      · intro wq hq
        go_simp
        try rfl
      try simp only [Act.put, List.setIfInBounds_toArray, List.set_cons_zero, List.set_cons_succ]
      refine wpAnyH_done (by kernel_rfl) ?_ _
      try simp only [Act.put, List.getElem_toArray, List.getElem_cons_zero, List.getElem_cons_succ, List.setIfInBounds_toArray, List.set_cons_zero, List.set_cons_succ]
      have rN := oN.rg
      replace bW := bW.trans (hH.mono bW.size)
      have hZ2 := HZE.out
      clear hH rS rT rU oN r0
      go_wp2_with (first | (refine ldw t23 rfl rfl rfl rN lz ?_) | (refine bldw rfl rfl ?_; rw [← hZ2]) | (refine cmpw cmp23 false Z Z rfl rfl rfl rfl lz lz bz bz ?_))
      go_ret
      exact ⟨rfl, bW⟩
    · refine wp_of_exec (exec_new z23 rfl x1) ?_
      have hle := hH.size
      refine hKK.out _ _ (hH.alloc hH.size _) (fun hH => ?_)
      clear hKK KK
      try simp only [Act.put, List.setIfInBounds_toArray, List.set_cons_zero, List.set_cons_succ]
      have oN := Own.new x1 23 (vs (zs 32))
      replace oL := oL.alloc (Obj.cells (vs (zs 32)) 23)
      generalize x1.alloc (Obj.cells (vs (zs 32)) 23) = x2 at *
      refine efH (i := 13) rfl (by kernel_rfl) (by rfl) (fun KK hKK => ?_)
      go_simp
      refine (HJ.out _ _ (ss_lit l1 l2 l3 HB.out.1 HB.out.2.1 HB.out.2.2 oL)).mono ?_
      rintro e x3 ⟨rfl, hx⟩
      have hH' := hH.trans (hx.mono hH.size)
      go_wp2_with fail
      refine hKK.out _ _ hH' (fun hH => ?_)
      replace oN := oN.below hx
      clear hKK KK hH' hx oL
      try simp only [Act.put, List.setIfInBounds_toArray, List.set_cons_zero, List.set_cons_succ]
      refine tkH (v := ?_) (i := 14) rfl (by kernel_rfl) (by kernel_rfl) (by kernel_rfl) (fun _ _ _ h => h) hH (Or.inl ⟨by rfl, ?_⟩) ?_
      rotate_left
      · intro wq hq
        go_simp
        try rfl
      try simp only [Act.put, List.setIfInBounds_toArray, List.set_cons_zero, List.set_cons_succ]
      refine tkH (v := ?_) (i := 15) rfl (by kernel_rfl) (by kernel_rfl) (by kernel_rfl) (fun _ _ _ h => h) hH (Or.inl ⟨by rfl, ?_⟩) ?_
      rotate_left
      · intro wq hq
        go_simp
        try rfl
      try simp only [Act.put, List.setIfInBounds_toArray, List.set_cons_zero, List.set_cons_succ]
      refine tkH (v := ?_) (i := 16) rfl (by kernel_rfl) (by kernel_rfl) (by kernel_rfl) (fun _ _ _ h => h) hH (Or.inl ⟨by rfl, ?_⟩) ?_
      rotate_left
      · intro wq hq
        go_simp
        try rfl
      try simp only [Act.put, List.setIfInBounds_toArray, List.set_cons_zero, List.set_cons_succ]
      refine efH (i := 18) rfl (by kernel_rfl) (by rfl) (fun KK hKK => ?_)
      refine wp_store_row 23 _ _ rfl x1.heap.size (vs Z) rfl rfl 23 (vs (zs 32)) oN (by rw [t23.siz, vs_size, lz]) (by rw [vs_size, vs_size, zs_length, lz]) (vs_one _) ?_
      refine hKK.out _ _ (below_row hH hle _) (fun hH => ?_)
      clear hKK KK hle
      replace oN := oN.row (vs Z)
      generalize x3.setRow x1.heap.size (vs Z) = xf at *
      try simp only [Act.put, List.setIfInBounds_toArray, List.set_cons_zero, List.set_cons_succ]
      refine tkH (v := ?_) (i := 19) rfl (by kernel_rfl) (by kernel_rfl) (by kernel_rfl) (fun _ _ _ h => h) hH (Or.inl ⟨by rfl, ?_⟩) ?_
      rotate_left
      · intro wq hq
        go_simp
        try rfl
      try simp only [Act.put, List.setIfInBounds_toArray, List.set_cons_zero, List.set_cons_succ]
      refine wpAnyH_done (by kernel_rfl) ?_ _
      try simp only [Act.put, List.getElem_toArray, List.getElem_cons_zero, List.getElem_cons_succ, List.setIfInBounds_toArray, List.set_cons_zero, List.set_cons_succ]
      have rN := oN.rg
      replace bW := bW.trans (hH.mono bW.size)
      have hZ2 := HZE.out
      clear hH rS rT rU oN r0
      go_wp2_with (first | (refine ldw t23 rfl rfl rfl rN lz ?_) | (refine bldw rfl rfl ?_; rw [← hZ2]) | (refine cmpw cmp23 false Z Z rfl rfl rfl rfl lz lz bz bz ?_))
      go_ret
      exact ⟨rfl, bW⟩
  · refine wp_of_exec (exec_new z23 rfl x0) ?_
    have hle := hH.size
    refine hKK.out _ _ (hH.alloc hH.size _) (fun hH => ?_)
    clear hKK KK
    try simp only [Act.put, List.setIfInBounds_toArray, List.set_cons_zero, List.set_cons_succ]
    have oN := Own.new x0 23 (vs (zs 32))
    generalize x0.alloc (Obj.cells (vs (zs 32)) 23) = x1 at *
    refine efH (i := 12) rfl (by kernel_rfl) (by rfl) (fun KK hKK => ?_)
    refine wp_of_exec (exec_lit3 l1 l2 l3 rfl rfl rfl rfl x1) ?_
    refine hKK.out _ _ (hH.alloc hH.size _) (fun hH => ?_)
    clear hKK KK
    try simp only [Act.put, List.setIfInBounds_toArray, List.set_cons_zero, List.set_cons_succ]
    have oL := Own.new x1 34 (vs [S, T, U].flatten)
    replace oN := oN.alloc (Obj.cells (vs [S, T, U].flatten) 34)
    generalize x1.alloc (Obj.cells (vs [S, T, U].flatten) 34) = x2 at *
    refine efH (i := 13) rfl (by kernel_rfl) (by rfl) (fun KK hKK => ?_)
    go_simp
    refine (HJ.out _ _ (ss_lit l1 l2 l3 HB.out.1 HB.out.2.1 HB.out.2.2 oL)).mono ?_
    rintro e x3 ⟨rfl, hx⟩
    have hH' := hH.trans (hx.mono hH.size)
    go_wp2_with fail
    refine hKK.out _ _ hH' (fun hH => ?_)
    replace oN := oN.below hx
    clear hKK KK hH' hx oL
    try simp only [Act.put, List.setIfInBounds_toArray, List.set_cons_zero, List.set_cons_succ]
    refine tkH (v := ?_) (i := 14) rfl (by kernel_rfl) (by kernel_rfl) (by kernel_rfl) (fun _ _ _ h => h) hH (Or.inl ⟨by rfl, ?_⟩) ?_
    rotate_left
    · intro wq hq
      go_simp
      try rfl
    try simp only [Act.put, List.setIfInBounds_toArray, List.set_cons_zero, List.set_cons_succ]
    refine tkH (v := ?_) (i := 15) rfl (by kernel_rfl) (by kernel_rfl) (by kernel_rfl) (fun _ _ _ h => h) hH (Or.inl ⟨by rfl, ?_⟩) ?_
    rotate_left
    · intro wq hq
      go_simp
      try rfl
    try simp only [Act.put, List.setIfInBounds_toArray, List.set_cons_zero, List.set_cons_succ]
    refine tkH (v := ?_) (i := 16) rfl (by kernel_rfl) (by kernel_rfl) (by kernel_rfl) (fun _ _ _ h => h) hH (Or.inl ⟨by rfl, ?_⟩) ?_
    rotate_left
    · intro wq hq
      go_simp
      try rfl
    try simp only [Act.put, List.setIfInBounds_toArray, List.set_cons_zero, List.set_cons_succ]
    refine efH (i := 18) rfl (by kernel_rfl) (by rfl) (fun KK hKK => ?_)
    refine wp_store_row 23 _ _ rfl x0.heap.size (vs Z) rfl rfl 23 (vs (zs 32)) oN (by rw [t23.siz, vs_size, lz]) (by rw [vs_size, vs_size, zs_length, lz]) (vs_one _) ?_
    refine hKK.out _ _ (below_row hH hle _) (fun hH => ?_)
    clear hKK KK hle
    replace oN := oN.row (vs Z)
    generalize x3.setRow x0.heap.size (vs Z) = xf at *
    try simp only [Act.put, List.setIfInBounds_toArray, List.set_cons_zero, List.set_cons_succ]
    refine tkH (v := ?_) (i := 19) rfl (by kernel_rfl) (by kernel_rfl) (by kernel_rfl) (fun _ _ _ h => h) hH (Or.inl ⟨by rfl, ?_⟩) ?_
    rotate_left
    · intro wq hq
      go_simp
      try rfl
    try simp only [Act.put, List.setIfInBounds_toArray, List.set_cons_zero, List.set_cons_succ]
    refine wpAnyH_done (by kernel_rfl) ?_ _
    try simp only [Act.put, List.getElem_toArray, List.getElem_cons_zero, List.getElem_cons_succ, List.setIfInBounds_toArray, List.set_cons_zero, List.set_cons_succ]
    have rN := oN.rg
    replace bW := bW.trans (hH.mono bW.size)
    have hZ2 := HZE.out
    clear hH rS rT rU oN r0
    go_wp2_with (first | (refine ldw t23 rfl rfl rfl rN lz ?_) | (refine bldw rfl rfl ?_; rw [← hZ2]) | (refine cmpw cmp23 false Z Z rfl rfl rfl rfl lz lz bz bz ?_))
    go_ret
    exact ⟨rfl, bW⟩
theorem walk (K M : List Nat) (n : Nat) (P : List Nat) (hK : Gf.Bytes K) (lK : K.length = 32) (hM : Gf.Bytes M) (lM : M.length = 64) (hn : n < 256) (hP : Gf.Bytes P) (lP : P.length = 3) (W : World) :
    Calls Try.prog 5 #[.agg (vs K), .agg (vs M), .int .u8 (n : Int), .agg (vs P)] W fun e w' => e = .returned (.bool true) ∧ Below W.heap.size W w' := by
  by_cases d12 : Gf.nth P 0 % (3 + n % 20) = Gf.nth P 1 % (3 + n % 20)
  · exact walk_no1 K M n P hK lK hM lM hn hP lP W _ _ _ _ rfl rfl rfl rfl d12
  · by_cases d13 : Gf.nth P 0 % (3 + n % 20) = Gf.nth P 2 % (3 + n % 20)
    · exact walk_no2 K M n P hK lK hM lM hn hP lP W _ _ _ _ rfl rfl rfl rfl d12 d13
    · by_cases d23 : Gf.nth P 1 % (3 + n % 20) = Gf.nth P 2 % (3 + n % 20)
      · exact walk_no3 K M n P hK lK hM lM hn hP lP W _ _ _ _ rfl rfl rfl rfl d12 d13 d23
      · exact walk_yes K M n P hK lK hM lM hn hP lP W _ _ _ _ rfl rfl rfl rfl d12 d13 d23

set_option maxRecDepth 100000 in
theorem lifted (os : Os) (started : os.Started) (H : Type) (enc : TypeId × Value → H) :
    ReturnsInHanded {} Try.checked os 5 .any (Rows.shareAnySpec.pre6 enc Try.prog Try.f5 Rows.shareAnyRow.domain false) (Rows.shareAnySpec.post enc Try.prog Try.f5 false true false false) := by
  refine returnsInHanded_of_change (C := Try.checked) own started (by kernel_rfl) Try.func5
    (ChangeSpec.witness6 (enc := enc) (C := Try.checked) false ⟨#[], #[.agg (Array.replicate 32 (.int .u8 0)), .agg (Array.replicate 64 (.int .u8 0)), .int .u8 0, .agg (Array.replicate 3 (.int .u8 0))], []⟩ 8 (by kernel_rfl) (by kernel_rfl) (by kernel_rfl) (by kernel_rfl)) ?_
  intro W base args ds gs before hval0 hW hcnd _
  have hval : ∀ (j : Nat) t v, Try.f5.params[j]? = some t → args[j]? = some v → Value.okWide Try.prog W .any base t v := hval0
  have hW' := hW
  obtain ⟨p, q, hA0, hV, rfl, hfz, hnd⟩ := hW
  have hA : DataW.TrodAll enc Try.prog W 0 (fun _ => true) true Try.f5.params.toList args.toList ds p := hA0
  rw [Try.params5] at hA hval
  obtain ⟨v0, vs0, d0, ds0, p0, q0, hargs, rfl, rfl, h0, r0⟩ := trodAll_cons hA
  obtain ⟨v1, vs1, d1, ds1, p1, q1, rfl, rfl, rfl, h1, r1⟩ := trodAll_cons r0
  obtain ⟨v2, vs2, d2, ds2, p2, q2, rfl, rfl, rfl, h2, r2⟩ := trodAll_cons r1
  obtain ⟨v3, vs3, d3, ds3, p3, q3, rfl, rfl, rfl, h3, r3⟩ := trodAll_cons r2
  obtain ⟨rfl, rfl, rfl⟩ := trodAll_nil r3
  obtain rfl : args = #[v0, v1, v2, v3] := by cases args; simp_all
  obtain ⟨rfl, rfl⟩ := trodVars_none hV
  obtain ⟨K0, rfl, l0, b0⟩ := okKey (hval 0 23 v0 rfl rfl)
  have k0 := h0
  have lt0 : ∀ x ∈ p0, x.block < W.heap.size := by obtain ⟨m, hm⟩ := k0; exact DataW.trod_lt m _ _ _ hm
  obtain ⟨K1, rfl, l1, b1⟩ := okNoise (hval 1 36 v1 rfl rfl)
  have k1 := h1
  have lt1 : ∀ x ∈ p1, x.block < W.heap.size := by obtain ⟨m, hm⟩ := k1; exact DataW.trod_lt m _ _ _ hm
  obtain ⟨n2, rfl, rfl, rfl, w2⟩ := open_int Try.underlying5 (hval 2 5 v2 rfl rfl) h2
  obtain ⟨m2, rfl, z2⟩ := nat_u8 w2
  obtain ⟨K3, rfl, l3, b3⟩ := okPick (hval 3 37 v3 rfl rfl)
  have k3 := h3
  have lt3 : ∀ x ∈ p3, x.block < W.heap.size := by obtain ⟨m, hm⟩ := k3; exact DataW.trod_lt m _ _ _ hm
  clear hA0 hval0
  refine (walk K0 K1 m2 K3 b0 l0 b1 l1 z2 b3 l3 W).mono fun e W' ⟨he, bel⟩ => ?_
  subst he
  exact ⟨_, rfl, _, _, _, [], _, [], hW', trodAll_mk1 (shut_bool Try.underlying4 _), (trodAll_cons_mk (Below.trod laidOut (by kernel_rfl) (of_decide_eq_true (by kernel_rfl)) k0 bel lt0) (trodAll_cons_mk (Below.trod laidOut (by kernel_rfl) (of_decide_eq_true (by kernel_rfl)) k1 bel lt1) (trodAll_cons_mk (shut_int Try.underlying5 w2) (trodAll_cons_mk (Below.trod laidOut (by kernel_rfl) (of_decide_eq_true (by kernel_rfl)) k3 bel lt3) trodAll_mk0)))), rfl, bel.frame _, fun h => by cases h⟩

theorem over : Rows.shareAnyRow.holds Try.pinned (OpenSpec.ofChange Rows.shareAnySpec) :=
  OpenClaim.holds_of_wide 5 Try.f5 rfl rfl rfl rfl rfl rfl rfl ⟨rfl, rfl, rfl, rfl, rfl⟩ rfl rfl rfl rfl rfl (by kernel_rfl) Try.func5 (by kernel_rfl)
    (of_decide_eq_true (by kernel_rfl)) (by unfold Func.isWrapper; first | (rw [if_pos (by decide +kernel)]; kernel_rfl) | (rw [if_neg (by decide +kernel)]; exact ⟨rfl, rfl⟩))
    (fun os started H enc _ => lifted os started H enc)

/-- the statement -/
theorem proved : Rows.ShareAnySaid := over
end Go.Proofs.Ytmnenjgipkopdaa.shareAny
