/-
  For every secret, noise, number and three picks TopThree answers true: any three shares tell the secret, in any order; with one byte of one of them another, they tell another one; the arguments read as before.
-/
import Derived.Test.YtkilphanbookkaaRows
import Derived.Test.YtkilphanbookkaaOk
import Derived.WalkKit
import Derived.ProofKit
import Derived.OpenShut
import Derived.ShutString
import Derived.Test.YtkilphanbookkaaSl
namespace Go.Proofs.Ytkilphanbookkaa.topThree
open Go.ChangeShapes Go.WideShapes Go.ChangeAt Go.RowKit
open Go.ChangeMaps (open_string shut_string)
set_option linter.unusedVariables false
set_option linter.unusedSimpArgs false

theorem own : ownKnob Try.prog.godebug = none := by kernel_rfl
theorem rg_other {w : World} {b o : Nat} {l : List Nat} (h : Rg w b o l) (p : Addr) (u : Value) (hp : b ≠ p.block) : Rg (w.setCell p u) b o l := fun j v hj => by
  have := h j v hj
  rw [← this]
  simp only [World.cell?, Below.heap_setCell _ _ _ _ hp]
theorem bsl3 {ops : Array Oper} {rest : List Oper} {o : Oper} {a : Act} {w : World} {Q : Exit → Act → World → Prop} {x y z : Operand} {S T U F : List Nat} (hS : S.length = 33) (hT : T.length = 33) (hU : U.length = 33) (hF : F = [S, T, U].flatten) (hgd : o.guard = none) (ho : o.op = .buildSlice 25 3 #[(0, x), (1, y), (2, z)])
    (hx : a.eval x = .agg (vs S)) (hy : a.eval y = .agg (vs T)) (hz : a.eval z = .agg (vs U))
    (h : wpList Try.prog ops Q rest (a.put o.dst (.slice (some ⟨w.heap.size, 0, none⟩) 3 3)) (w.alloc (.cells (vs F) 31))) : wpList Try.prog ops Q (o :: rest) a w := by
  subst hF
  exact bsl [S, T, U] (fun s hs => by simp at hs; rcases hs with rfl | rfl | rfl <;> assumption) (by simp) (by simp) hgd _ ho rfl (parts3 hx hy hz) h
theorem late3 {G : Prop} {F : Nat → Nat → Nat → World → Prop} (P : Nat → Nat → Nat → World → Prop) (main : (∀ a b c w, P a b c w → F a b c w) → G) (rest : ∀ a b c w, P a b c w → F a b c w) : G := main rest
theorem efH3 {P : Program} {l : List Oper} {Q : Exit → Act → World → Prop} {md : Region.Mode} {S : World → Prop} {i j k : Nat} {oi oj ok : Oper} {fuel : Nat} {listed : Array Bool} {a : Act} {w : World} (hi : l[i]? = some oi) (hj : l[j]? = some oj) (hk : l[k]? = some ok) (hr : Region.ready md l.toArray listed = [i, j, k])
    (hwi : Region.wanted oi (yielded l.toArray a.tmps) = true) (hwj : Region.wanted oj (yielded l.toArray a.tmps) = true) (hwk : Region.wanted ok (yielded l.toArray a.tmps) = true)
    (h1 : ∀ K : Act → World → Prop, Shut (∀ a w, S w → (S w → wpAnyH P md l.toArray Q S fuel (listed.setIfInBounds i true) a w) → K a w) → Oper.wp P oi a w K Q)
    (h2 : ∀ K : Act → World → Prop, Shut (∀ a w, S w → (S w → wpAnyH P md l.toArray Q S fuel (listed.setIfInBounds j true) a w) → K a w) → Oper.wp P oj a w K Q)
    (h3 : ∀ K : Act → World → Prop, Shut (∀ a w, S w → (S w → wpAnyH P md l.toArray Q S fuel (listed.setIfInBounds k true) a w) → K a w) → Oper.wp P ok a w K Q) : wpAnyH P md l.toArray Q S (fuel + 1) listed a w :=
  wpAnyH_ready hr (by simp) (AllReadyH.cons (by rw [List.getElem?_toArray]; exact hi) (fun K hK => by rw [if_pos hwi]; exact h1 K hK) (AllReadyH.cons (by rw [List.getElem?_toArray]; exact hj) (fun K hK => by rw [if_pos hwj]; exact h2 K hK)
    (AllReadyH.cons (by rw [List.getElem?_toArray]; exact hk) (fun K hK => by rw [if_pos hwk]; exact h3 K hK) AllReadyH.nil)))
set_option maxRecDepth 100000 in
set_option maxHeartbeats 8000000 in
theorem walks (K M : List Nat) (n a1 a2 a3 : Nat) (hK : Gf.Bytes K) (lK : K.length = 32) (hM : Gf.Bytes M) (lM : M.length = 64) (hn : n < 256) (ha1 : a1 < 256) (ha2 : a2 < 256) (ha3 : a3 < 256) (W : World)
    (a q1 q2 q3 : Nat) (ha : a = 3 + n % 200) (e1 : q1 = a1 % a) (e2 : q2 = a2 % a) (e3 : q3 = a3 % a) :
    Calls Try.prog 4 #[.agg (vs K), .agg (vs M), .int .u8 (n : Int), .int .u8 (a1 : Int), .int .u8 (a2 : Int), .int .u8 (a3 : Int)] W fun e w' => e = .returned (.bool true) ∧ Below W.heap.size W w' := by
  have HK := Lib.hid (And.intro hK lK)
  have HM := Lib.hid (And.intro hM lM)
  have hMs : (bs M).size = 64 := by rw [bs_size, lM]
  have la : 3 ≤ a := by omega
  have ua : a ≤ 202 := by omega
  have ap : 0 < a := by omega
  have m1 : q1 < a := by rw [e1]; exact Nat.mod_lt _ ap
  have m2 : q2 < a := by rw [e2]; exact Nat.mod_lt _ ap
  have m3 : q3 < a := by rw [e3]; exact Nat.mod_lt _ ap
  have z1 : W.heap.size + 1 = (W.alloc (Obj.cells (vs K) 23)).heap.size := sz1 _ _
  have o0 := (Own.new W 23 (vs K)).alloc (Obj.cells (vs M) 24)
  have o1 := Own.new' (W.alloc (Obj.cells (vs K) 23)) 24 (vs M) z1
  have bW := ((Below.refl W.heap.size W).alloc (Nat.le_refl _) (Obj.cells (vs K) 23)).alloc (by omega) (Obj.cells (vs M) 24)
  have hs1 := fun w => ssplit_ok K (bs M) a hK lK hMs la (by omega) w
  rw [toN_bs hM] at hs1
  clear hK lK hM lM z1 hMs
  have ea : 3 + (n : Int) % 200 = (a : Int) := by omega
  have v1 : Int.tmod (a1 : Int) (a : Int) = (q1 : Int) := by rw [e1]; exact (Int.ofNat_tmod _ _).symm
  have v2 : Int.tmod (a2 : Int) (a : Int) = (q2 : Int) := by rw [e2]; exact (Int.ofNat_tmod _ _).symm
  have v3 : Int.tmod (a3 : Int) (a : Int) = (q3 : Int) := by rw [e3]; exact (Int.ofNat_tmod _ _).symm
  have wp1 : IntKind.i64.wrap (a1 : Int) = (a1 : Int) := IntWalk.i64_in _ (by omega)
  have wp2 : IntKind.i64.wrap (a2 : Int) = (a2 : Int) := IntWalk.i64_in _ (by omega)
  have wp3 : IntKind.i64.wrap (a3 : Int) = (a3 : Int) := IntWalk.i64_in _ (by omega)
  have HQ := Lib.hid (And.intro ha (And.intro e1 (And.intro e2 e3)))
  have HV := Lib.hid (And.intro v1 (And.intro v2 (And.intro v3 (And.intro wp1 (And.intro wp2 wp3)))))
  clear ha e1 e2 e3 v1 v2 v3 wp1 wp2 wp3
  go_enter Try.func4, Try.ntmps4
  go_wp2_with fail
  generalize hw1 : (W.alloc (Obj.cells (vs K) 23)).alloc (Obj.cells (vs M) 24) = w1 at *
  have HW1 := Lib.hid hw1
  clear hw1
  have r0 := o0.rg
  have r1 := o1.rg
  clear o0 o1
  replace r0 := r0.drew
  replace r1 := r1.drew
  replace bW := bW.drew
  refine wp_region_held_drew (S := fun w' => Below w1.drew.heap.size w1.drew w') (by kernel_rfl) (Below.refl _ _) (fun hH => ?_)
  generalize w1.drew = w2 at *
  refine tkH (i := 0) rfl (by kernel_rfl) (by kernel_rfl) (by kernel_rfl) (fun _ _ _ h => h) hH (yld t23 (by rfl) rfl rfl K r0 HK.out.2) ?_
  try simp only [Act.put, List.setIfInBounds_toArray, List.set_cons_zero, List.set_cons_succ]
  refine tkH (v := ?_) (i := 1) rfl (by kernel_rfl) (by kernel_rfl) (by kernel_rfl) (fun _ _ _ h => h) hH (Or.inl ⟨by rfl, ?_⟩) ?_
  rotate_left
  · intro wq hq
    go_simp
    try rfl
  try simp only [Act.put, List.setIfInBounds_toArray, List.set_cons_zero, List.set_cons_succ]
  refine tkH (v := ?_) (i := 2) rfl (by kernel_rfl) (by kernel_rfl) (by kernel_rfl) (fun _ _ _ h => h) hH (Or.inl ⟨by rfl, ?_⟩) ?_
  rotate_left
  · intro wq hq
    go_simp
    try rfl
  try simp only [Act.put, List.setIfInBounds_toArray, List.set_cons_zero, List.set_cons_succ]
  refine tkH (v := ?_) (i := 3) rfl (by kernel_rfl) (by kernel_rfl) (by kernel_rfl) (fun _ _ _ h => h) hH (Or.inl ⟨by rfl, ?_⟩) ?_
  rotate_left
  · intro wq hq
    have hcv := conv_bs wq (W.heap.size + 1) 0 M 64 64 HM.out.2 (r1.below hq)
    go_simp
    try rfl
  try simp only [Act.put, List.setIfInBounds_toArray, List.set_cons_zero, List.set_cons_succ]
  refine efH (i := 4) rfl (by kernel_rfl) (by rfl) (fun KK hKK => ?_)
  go_simp
  refine (hs1 _).mono ?_
  rintro e w3 ⟨⟨A, c, rfl, s1, hc⟩, hx⟩
  have hH' := hH.trans (hx.mono hH.size)
  go_wp2_with fail
  refine hKK.out _ _ hH' (fun hH => ?_)
  clear hKK KK hH'
  try simp only [Act.put, List.setIfInBounds_toArray, List.set_cons_zero, List.set_cons_succ]
  refine tkH (v := ?_) (i := 5) rfl (by kernel_rfl) (by kernel_rfl) (by kernel_rfl) (fun _ _ _ h => h) hH (Or.inl ⟨by rfl, ?_⟩) ?_
  rotate_left
  · intro wq hq
    go_simp
    try rfl
  try simp only [Act.put, List.setIfInBounds_toArray, List.set_cons_zero, List.set_cons_succ]
  refine tkH (v := ?_) (i := 6) rfl (by kernel_rfl) (by kernel_rfl) (by kernel_rfl) (fun _ _ _ h => h) hH (Or.inl ⟨by rfl, ?_⟩) ?_
  rotate_left
  · intro wq hq
    go_simp
    try rfl
  try simp only [Act.put, List.setIfInBounds_toArray, List.set_cons_zero, List.set_cons_succ]
  refine tkH (v := ?_) (i := 7) rfl (by kernel_rfl) (by kernel_rfl) (by kernel_rfl) (fun _ _ _ h => h) hH (Or.inl ⟨by rfl, ?_⟩) ?_
  rotate_left
  · intro wq hq
    go_simp
    try rfl
  try simp only [Act.put, List.setIfInBounds_toArray, List.set_cons_zero, List.set_cons_succ]
  refine tkH (v := ?_) (i := 8) rfl (by kernel_rfl) (by kernel_rfl) (by kernel_rfl) (fun _ _ _ h => h) hH (Or.inl ⟨by rfl, ?_⟩) ?_
  rotate_left
  · intro wq hq
    go_simp
    try rfl
  try simp only [Act.put, List.setIfInBounds_toArray, List.set_cons_zero, List.set_cons_succ]
  refine tkH (v := ?_) (i := 9) rfl (by kernel_rfl) (by kernel_rfl) (by kernel_rfl) (fun _ _ _ h => h) hH (Or.inl ⟨by rfl, ?_⟩) ?_
  rotate_left
  · intro wq hq
    go_simp
    try rfl
  try simp only [Act.put, List.setIfInBounds_toArray, List.set_cons_zero, List.set_cons_succ]
  refine wpAnyH_done (by kernel_rfl) ?_ _
  try simp only [Act.put, List.getElem_toArray, List.getElem_cons_zero, List.getElem_cons_succ, List.setIfInBounds_toArray, List.set_cons_zero, List.set_cons_succ]
  replace bW := bW.trans (hH.mono bW.size)
  replace r0 := r0.below hH
  replace r1 := r1.below hH
  clear hs1 hx hH r1
  obtain ⟨b, o, rfl, hsh⟩ := share_at s1 ap
  have hln := s1.1
  clear s1
  have rS := hsh q1 m1
  have rT := hsh q2 m2
  have rU := hsh q3 m3
  clear hsh hln
  have lS := Sx.shr_length K M (q1 + 1)
  have lT := Sx.shr_length K M (q2 + 1)
  have lU := Sx.shr_length K M (q3 + 1)
  obtain ⟨v1, v2, v3, wp1, wp2, wp3⟩ := HV.out
  have an : ¬ a = 0 := by omega
  have i1 : (q1 : Int) < (a : Int) := by omega
  have i2 : (q2 : Int) < (a : Int) := by omega
  have i3 : (q3 : Int) < (a : Int) := by omega
  generalize hS : Sx.shr K M (q1 + 1) = S at *
  generalize hT : Sx.shr K M (q2 + 1) = T at *
  generalize hU : Sx.shr K M (q3 + 1) = U at *
  have HS := Lib.hid (And.intro hS (And.intro hT hU))
  clear hS hT hU
  generalize hg : W.heap.size = g at *
  have HG := Lib.hid hg
  clear hg
  go_wp2_with fail
  apply late3 (fun (gX gY gZ : Nat) (wF : World) => Own wF gX 31 (vs S) ∧ Own wF gY 31 (vs T) ∧ Own wF gZ 31 (vs U) ∧ Rg wF g 0 K ∧ Below g W wF ∧ gX ≠ gZ ∧ gY ≠ gZ ∧ g < gZ)
  · intro rest
    replace r0 := r0.drew
    replace rS := rS.drew
    replace rT := rT.drew
    replace rU := rU.drew
    replace bW := bW.drew
    refine wp_region_held_drew (S := fun w' => Below w3.drew.heap.size w3.drew w') (by kernel_rfl) (Below.refl _ _) (fun hH => ?_)
    generalize w3.drew = x0 at *
    refine tkH (v := ?_) (i := 0) rfl (by kernel_rfl) (by kernel_rfl) (by kernel_rfl) (fun _ _ _ h => h) hH (Or.inl ⟨by rfl, ?_⟩) ?_
    rotate_left
    · intro wq hq
      go_simp
      try rfl
    try simp only [Act.put, List.setIfInBounds_toArray, List.set_cons_zero, List.set_cons_succ]
    refine tkH (v := ?_) (i := 1) rfl (by kernel_rfl) (by kernel_rfl) (by kernel_rfl) (fun _ _ _ h => h) hH (Or.inl ⟨by rfl, ?_⟩) ?_
    rotate_left
    · intro wq hq
      go_simp
      try rfl
    try simp only [Act.put, List.setIfInBounds_toArray, List.set_cons_zero, List.set_cons_succ]
    refine tkH (v := ?_) (i := 2) rfl (by kernel_rfl) (by kernel_rfl) (by kernel_rfl) (fun _ _ _ h => h) hH (Or.inl ⟨by rfl, ?_⟩) ?_
    rotate_left
    · intro wq hq
      go_simp
      try rfl
    try simp only [Act.put, List.setIfInBounds_toArray, List.set_cons_zero, List.set_cons_succ]
    refine tkH (v := ?_) (i := 3) rfl (by kernel_rfl) (by kernel_rfl) (by kernel_rfl) (fun _ _ _ h => h) hH (Or.inl ⟨by rfl, ?_⟩) ?_
    rotate_left
    · intro wq hq
      go_simp
      try rfl
    try simp only [Act.put, List.setIfInBounds_toArray, List.set_cons_zero, List.set_cons_succ]
    refine tkH (v := ?_) (i := 4) rfl (by kernel_rfl) (by kernel_rfl) (by kernel_rfl) (fun _ _ _ h => h) hH (Or.inl ⟨by rfl, ?_⟩) ?_
    rotate_left
    · intro wq hq
      go_simp
      try rfl
    try simp only [Act.put, List.setIfInBounds_toArray, List.set_cons_zero, List.set_cons_succ]
    refine tkH (v := ?_) (i := 5) rfl (by kernel_rfl) (by kernel_rfl) (by kernel_rfl) (fun _ _ _ h => h) hH (Or.inl ⟨by rfl, ?_⟩) ?_
    rotate_left
    · intro wq hq
      go_simp
      try rfl
    try simp only [Act.put, List.setIfInBounds_toArray, List.set_cons_zero, List.set_cons_succ]
    refine tkH (i := 6) rfl (by kernel_rfl) (by kernel_rfl) (by kernel_rfl) (fun _ _ _ h => h) hH (yld t34 (by rfl) rfl rfl S rS lS) ?_
    try simp only [Act.put, List.setIfInBounds_toArray, List.set_cons_zero, List.set_cons_succ]
    refine tkH (v := ?_) (i := 7) rfl (by kernel_rfl) (by kernel_rfl) (by kernel_rfl) (fun _ _ _ h => h) hH (Or.inl ⟨by rfl, ?_⟩) ?_
    rotate_left
    · intro wq hq
      go_simp
      try rfl
    try simp only [Act.put, List.setIfInBounds_toArray, List.set_cons_zero, List.set_cons_succ]
    refine tkH (v := ?_) (i := 8) rfl (by kernel_rfl) (by kernel_rfl) (by kernel_rfl) (fun _ _ _ h => h) hH (Or.inl ⟨by rfl, ?_⟩) ?_
    rotate_left
    · intro wq hq
      go_simp
      try rfl
    try simp only [Act.put, List.setIfInBounds_toArray, List.set_cons_zero, List.set_cons_succ]
    refine tkH (v := ?_) (i := 9) rfl (by kernel_rfl) (by kernel_rfl) (by kernel_rfl) (fun _ _ _ h => h) hH (Or.inl ⟨by rfl, ?_⟩) ?_
    rotate_left
    · intro wq hq
      go_simp
      try rfl
    try simp only [Act.put, List.setIfInBounds_toArray, List.set_cons_zero, List.set_cons_succ]
    refine tkH (v := ?_) (i := 10) rfl (by kernel_rfl) (by kernel_rfl) (by kernel_rfl) (fun _ _ _ h => h) hH (Or.inl ⟨by rfl, ?_⟩) ?_
    rotate_left
    · intro wq hq
      go_simp
      try rfl
    try simp only [Act.put, List.setIfInBounds_toArray, List.set_cons_zero, List.set_cons_succ]
    refine tkH (v := ?_) (i := 11) rfl (by kernel_rfl) (by kernel_rfl) (by kernel_rfl) (fun _ _ _ h => h) hH (Or.inl ⟨by rfl, ?_⟩) ?_
    rotate_left
    · intro wq hq
      go_simp
      try rfl
    try simp only [Act.put, List.setIfInBounds_toArray, List.set_cons_zero, List.set_cons_succ]
    refine tkH (v := ?_) (i := 12) rfl (by kernel_rfl) (by kernel_rfl) (by kernel_rfl) (fun _ _ _ h => h) hH (Or.inl ⟨by rfl, ?_⟩) ?_
    rotate_left
    · intro wq hq
      go_simp
      try rfl
    try simp only [Act.put, List.setIfInBounds_toArray, List.set_cons_zero, List.set_cons_succ]
    refine tkH (i := 13) rfl (by kernel_rfl) (by kernel_rfl) (by kernel_rfl) (fun _ _ _ h => h) hH (yld t34 (by rfl) rfl rfl T rT lT) ?_
    try simp only [Act.put, List.setIfInBounds_toArray, List.set_cons_zero, List.set_cons_succ]
    refine tkH (v := ?_) (i := 14) rfl (by kernel_rfl) (by kernel_rfl) (by kernel_rfl) (fun _ _ _ h => h) hH (Or.inl ⟨by rfl, ?_⟩) ?_
    rotate_left
    · intro wq hq
      go_simp
      try rfl
    try simp only [Act.put, List.setIfInBounds_toArray, List.set_cons_zero, List.set_cons_succ]
    refine tkH (v := ?_) (i := 15) rfl (by kernel_rfl) (by kernel_rfl) (by kernel_rfl) (fun _ _ _ h => h) hH (Or.inl ⟨by rfl, ?_⟩) ?_
    rotate_left
    · intro wq hq
      go_simp
      try rfl
    try simp only [Act.put, List.setIfInBounds_toArray, List.set_cons_zero, List.set_cons_succ]
    refine tkH (v := ?_) (i := 16) rfl (by kernel_rfl) (by kernel_rfl) (by kernel_rfl) (fun _ _ _ h => h) hH (Or.inl ⟨by rfl, ?_⟩) ?_
    rotate_left
    · intro wq hq
      go_simp
      try rfl
    try simp only [Act.put, List.setIfInBounds_toArray, List.set_cons_zero, List.set_cons_succ]
    refine tkH (v := ?_) (i := 17) rfl (by kernel_rfl) (by kernel_rfl) (by kernel_rfl) (fun _ _ _ h => h) hH (Or.inl ⟨by rfl, ?_⟩) ?_
    rotate_left
    · intro wq hq
      go_simp
      try rfl
    try simp only [Act.put, List.setIfInBounds_toArray, List.set_cons_zero, List.set_cons_succ]
    refine tkH (v := ?_) (i := 18) rfl (by kernel_rfl) (by kernel_rfl) (by kernel_rfl) (fun _ _ _ h => h) hH (Or.inl ⟨by rfl, ?_⟩) ?_
    rotate_left
    · intro wq hq
      go_simp
      try rfl
    try simp only [Act.put, List.setIfInBounds_toArray, List.set_cons_zero, List.set_cons_succ]
    refine tkH (v := ?_) (i := 19) rfl (by kernel_rfl) (by kernel_rfl) (by kernel_rfl) (fun _ _ _ h => h) hH (Or.inl ⟨by rfl, ?_⟩) ?_
    rotate_left
    · intro wq hq
      go_simp
      try rfl
    try simp only [Act.put, List.setIfInBounds_toArray, List.set_cons_zero, List.set_cons_succ]
    refine tkH (i := 20) rfl (by kernel_rfl) (by kernel_rfl) (by kernel_rfl) (fun _ _ _ h => h) hH (yld t34 (by rfl) rfl rfl U rU lU) ?_
    try simp only [Act.put, List.setIfInBounds_toArray, List.set_cons_zero, List.set_cons_succ]
    refine efH3 (i := 21) (j := 22) (k := 23) rfl rfl rfl (by kernel_rfl) (by rfl) (by rfl) (by rfl) (fun KK hKK => ?_) (fun KK hKK => ?_) (fun KK hKK => ?_)
    · refine wp_of_exec (exec_new z34 rfl x0) ?_
      have hleX := hH.size
      refine hKK.out _ _ (hH.alloc hH.size _) (fun hH => ?_)
      clear hKK KK
      try simp only [Act.put, List.setIfInBounds_toArray, List.set_cons_zero, List.set_cons_succ]
      have oX := Own.new x0 31 (vs (zs 33))
      generalize x0.alloc (Obj.cells (vs (zs 33)) 31) = v0 at *
      refine efH2 (i := 22) (j := 23) rfl rfl (by kernel_rfl) (by rfl) (by rfl) (fun KK hKK => ?_) (fun KK hKK => ?_)
      · refine wp_of_exec (exec_new z34 rfl v0) ?_
        have hleY := hH.size
        refine hKK.out _ _ (hH.alloc hH.size _) (fun hH => ?_)
        clear hKK KK
        try simp only [Act.put, List.setIfInBounds_toArray, List.set_cons_zero, List.set_cons_succ]
        have hxy := oX.lt
        replace oX := oX.alloc (Obj.cells (vs (zs 33)) 31)
        have oY := Own.new v0 31 (vs (zs 33))
        generalize v0.alloc (Obj.cells (vs (zs 33)) 31) = v1 at *
        refine efH (i := 23) rfl (by kernel_rfl) (by rfl) (fun KK hKK => ?_)
        refine wp_of_exec (exec_new z34 rfl v1) ?_
        have hleZ := hH.size
        refine hKK.out _ _ (hH.alloc hH.size _) (fun hH => ?_)
        clear hKK KK
        try simp only [Act.put, List.setIfInBounds_toArray, List.set_cons_zero, List.set_cons_succ]
        have hyz := oY.lt
        replace oX := oX.alloc (Obj.cells (vs (zs 33)) 31)
        replace oY := oY.alloc (Obj.cells (vs (zs 33)) 31)
        have oZ := Own.new v1 31 (vs (zs 33))
        generalize v1.alloc (Obj.cells (vs (zs 33)) 31) = v2 at *
        refine efH (i := 24) rfl (by kernel_rfl) (by rfl) (fun KK hKK => ?_)
        refine wp_store_row 31 _ _ rfl x0.heap.size (vs S) rfl rfl 31 (vs (zs 33)) oX (by rw [t34.siz, vs_size, lS]) (by rw [vs_size, vs_size, zs_length, lS]) (vs_one _) ?_
        refine hKK.out _ _ (below_row hH hleX _) (fun hH => ?_)
        clear hKK KK
        replace oX := oX.row (vs S)
        replace oY := oY.rowOther x0.heap.size (vs S) (by omega)
        replace oZ := oZ.rowOther x0.heap.size (vs S) (by omega)
        generalize v2.setRow x0.heap.size (vs S) = v3 at *
        try simp only [Act.put, List.setIfInBounds_toArray, List.set_cons_zero, List.set_cons_succ]
        refine efH (i := 25) rfl (by kernel_rfl) (by rfl) (fun KK hKK => ?_)
        refine wp_store_row 31 _ _ rfl v0.heap.size (vs T) rfl rfl 31 (vs (zs 33)) oY (by rw [t34.siz, vs_size, lT]) (by rw [vs_size, vs_size, zs_length, lT]) (vs_one _) ?_
        refine hKK.out _ _ (below_row hH hleY _) (fun hH => ?_)
        clear hKK KK
        replace oY := oY.row (vs T)
        replace oX := oX.rowOther v0.heap.size (vs T) (by omega)
        replace oZ := oZ.rowOther v0.heap.size (vs T) (by omega)
        generalize v3.setRow v0.heap.size (vs T) = v4 at *
        try simp only [Act.put, List.setIfInBounds_toArray, List.set_cons_zero, List.set_cons_succ]
        refine efH (i := 26) rfl (by kernel_rfl) (by rfl) (fun KK hKK => ?_)
        refine wp_store_row 31 _ _ rfl v1.heap.size (vs U) rfl rfl 31 (vs (zs 33)) oZ (by rw [t34.siz, vs_size, lU]) (by rw [vs_size, vs_size, zs_length, lU]) (vs_one _) ?_
        refine hKK.out _ _ (below_row hH hleZ _) (fun hH => ?_)
        clear hKK KK
        replace oZ := oZ.row (vs U)
        replace oX := oX.rowOther v1.heap.size (vs U) (by omega)
        replace oY := oY.rowOther v1.heap.size (vs U) (by omega)
        generalize v4.setRow v1.heap.size (vs U) = v5 at *
        try simp only [Act.put, List.setIfInBounds_toArray, List.set_cons_zero, List.set_cons_succ]
        refine wpAnyH_done (by kernel_rfl) ?_ _
        try simp only [Act.put, List.getElem_toArray, List.getElem_cons_zero, List.getElem_cons_succ, List.setIfInBounds_toArray, List.set_cons_zero, List.set_cons_succ]
        have dXZ : x0.heap.size ≠ v1.heap.size := by omega
        have dYZ : v0.heap.size ≠ v1.heap.size := by omega
        have hgx : g < x0.heap.size := World.block_lt_of_cell? _ _ (r0.cell (i := 0) (by rw [HK.out.2]; omega))
        have dgZ : g < v1.heap.size := Nat.lt_of_lt_of_le hgx hleZ
        replace bW := bW.trans (hH.mono (by have := bW.size; have := HG.out; omega))
        replace r0 := r0.below hH
        clear hH hleX hleY hleZ hxy hyz hgx
        generalize x0.heap.size = gX at oX dXZ ⊢
        generalize v0.heap.size = gY at oY dYZ ⊢
        generalize v1.heap.size = gZ at oZ dXZ dYZ dgZ ⊢
        exact rest gX gY gZ v5 ⟨oX, oY, oZ, r0, bW, dXZ, dYZ, dgZ⟩
      · refine wp_of_exec (exec_new z34 rfl v0) ?_
        have hleZ := hH.size
        refine hKK.out _ _ (hH.alloc hH.size _) (fun hH => ?_)
        clear hKK KK
        try simp only [Act.put, List.setIfInBounds_toArray, List.set_cons_zero, List.set_cons_succ]
        have hxy := oX.lt
        replace oX := oX.alloc (Obj.cells (vs (zs 33)) 31)
        have oZ := Own.new v0 31 (vs (zs 33))
        generalize v0.alloc (Obj.cells (vs (zs 33)) 31) = v6 at *
        refine efH (i := 22) rfl (by kernel_rfl) (by rfl) (fun KK hKK => ?_)
        refine wp_of_exec (exec_new z34 rfl v6) ?_
        have hleY := hH.size
        refine hKK.out _ _ (hH.alloc hH.size _) (fun hH => ?_)
        clear hKK KK
        try simp only [Act.put, List.setIfInBounds_toArray, List.set_cons_zero, List.set_cons_succ]
        have hyz := oZ.lt
        replace oX := oX.alloc (Obj.cells (vs (zs 33)) 31)
        replace oZ := oZ.alloc (Obj.cells (vs (zs 33)) 31)
        have oY := Own.new v6 31 (vs (zs 33))
        generalize v6.alloc (Obj.cells (vs (zs 33)) 31) = v7 at *
        refine efH (i := 24) rfl (by kernel_rfl) (by rfl) (fun KK hKK => ?_)
        refine wp_store_row 31 _ _ rfl x0.heap.size (vs S) rfl rfl 31 (vs (zs 33)) oX (by rw [t34.siz, vs_size, lS]) (by rw [vs_size, vs_size, zs_length, lS]) (vs_one _) ?_
        refine hKK.out _ _ (below_row hH hleX _) (fun hH => ?_)
        clear hKK KK
        replace oX := oX.row (vs S)
        replace oY := oY.rowOther x0.heap.size (vs S) (by omega)
        replace oZ := oZ.rowOther x0.heap.size (vs S) (by omega)
        generalize v7.setRow x0.heap.size (vs S) = v8 at *
        try simp only [Act.put, List.setIfInBounds_toArray, List.set_cons_zero, List.set_cons_succ]
        refine efH (i := 25) rfl (by kernel_rfl) (by rfl) (fun KK hKK => ?_)
        refine wp_store_row 31 _ _ rfl v6.heap.size (vs T) rfl rfl 31 (vs (zs 33)) oY (by rw [t34.siz, vs_size, lT]) (by rw [vs_size, vs_size, zs_length, lT]) (vs_one _) ?_
        refine hKK.out _ _ (below_row hH hleY _) (fun hH => ?_)
        clear hKK KK
        replace oY := oY.row (vs T)
        replace oX := oX.rowOther v6.heap.size (vs T) (by omega)
        replace oZ := oZ.rowOther v6.heap.size (vs T) (by omega)
        generalize v8.setRow v6.heap.size (vs T) = v9 at *
        try simp only [Act.put, List.setIfInBounds_toArray, List.set_cons_zero, List.set_cons_succ]
        refine efH (i := 26) rfl (by kernel_rfl) (by rfl) (fun KK hKK => ?_)
        refine wp_store_row 31 _ _ rfl v0.heap.size (vs U) rfl rfl 31 (vs (zs 33)) oZ (by rw [t34.siz, vs_size, lU]) (by rw [vs_size, vs_size, zs_length, lU]) (vs_one _) ?_
        refine hKK.out _ _ (below_row hH hleZ _) (fun hH => ?_)
        clear hKK KK
        replace oZ := oZ.row (vs U)
        replace oX := oX.rowOther v0.heap.size (vs U) (by omega)
        replace oY := oY.rowOther v0.heap.size (vs U) (by omega)
        generalize v9.setRow v0.heap.size (vs U) = v10 at *
        try simp only [Act.put, List.setIfInBounds_toArray, List.set_cons_zero, List.set_cons_succ]
        refine wpAnyH_done (by kernel_rfl) ?_ _
        try simp only [Act.put, List.getElem_toArray, List.getElem_cons_zero, List.getElem_cons_succ, List.setIfInBounds_toArray, List.set_cons_zero, List.set_cons_succ]
        have dXZ : x0.heap.size ≠ v0.heap.size := by omega
        have dYZ : v6.heap.size ≠ v0.heap.size := by omega
        have hgx : g < x0.heap.size := World.block_lt_of_cell? _ _ (r0.cell (i := 0) (by rw [HK.out.2]; omega))
        have dgZ : g < v0.heap.size := Nat.lt_of_lt_of_le hgx hleZ
        replace bW := bW.trans (hH.mono (by have := bW.size; have := HG.out; omega))
        replace r0 := r0.below hH
        clear hH hleX hleY hleZ hxy hyz hgx
        generalize x0.heap.size = gX at oX dXZ ⊢
        generalize v6.heap.size = gY at oY dYZ ⊢
        generalize v0.heap.size = gZ at oZ dXZ dYZ dgZ ⊢
        exact rest gX gY gZ v10 ⟨oX, oY, oZ, r0, bW, dXZ, dYZ, dgZ⟩
    · refine wp_of_exec (exec_new z34 rfl x0) ?_
      have hleY := hH.size
      refine hKK.out _ _ (hH.alloc hH.size _) (fun hH => ?_)
      clear hKK KK
      try simp only [Act.put, List.setIfInBounds_toArray, List.set_cons_zero, List.set_cons_succ]
      have oY := Own.new x0 31 (vs (zs 33))
      generalize x0.alloc (Obj.cells (vs (zs 33)) 31) = v11 at *
      refine efH2 (i := 21) (j := 23) rfl rfl (by kernel_rfl) (by rfl) (by rfl) (fun KK hKK => ?_) (fun KK hKK => ?_)
      · refine wp_of_exec (exec_new z34 rfl v11) ?_
        have hleX := hH.size
        refine hKK.out _ _ (hH.alloc hH.size _) (fun hH => ?_)
        clear hKK KK
        try simp only [Act.put, List.setIfInBounds_toArray, List.set_cons_zero, List.set_cons_succ]
        have hxy := oY.lt
        replace oY := oY.alloc (Obj.cells (vs (zs 33)) 31)
        have oX := Own.new v11 31 (vs (zs 33))
        generalize v11.alloc (Obj.cells (vs (zs 33)) 31) = v12 at *
        refine efH (i := 23) rfl (by kernel_rfl) (by rfl) (fun KK hKK => ?_)
        refine wp_of_exec (exec_new z34 rfl v12) ?_
        have hleZ := hH.size
        refine hKK.out _ _ (hH.alloc hH.size _) (fun hH => ?_)
        clear hKK KK
        try simp only [Act.put, List.setIfInBounds_toArray, List.set_cons_zero, List.set_cons_succ]
        have hyz := oX.lt
        replace oY := oY.alloc (Obj.cells (vs (zs 33)) 31)
        replace oX := oX.alloc (Obj.cells (vs (zs 33)) 31)
        have oZ := Own.new v12 31 (vs (zs 33))
        generalize v12.alloc (Obj.cells (vs (zs 33)) 31) = v13 at *
        refine efH (i := 24) rfl (by kernel_rfl) (by rfl) (fun KK hKK => ?_)
        refine wp_store_row 31 _ _ rfl v11.heap.size (vs S) rfl rfl 31 (vs (zs 33)) oX (by rw [t34.siz, vs_size, lS]) (by rw [vs_size, vs_size, zs_length, lS]) (vs_one _) ?_
        refine hKK.out _ _ (below_row hH hleX _) (fun hH => ?_)
        clear hKK KK
        replace oX := oX.row (vs S)
        replace oY := oY.rowOther v11.heap.size (vs S) (by omega)
        replace oZ := oZ.rowOther v11.heap.size (vs S) (by omega)
        generalize v13.setRow v11.heap.size (vs S) = v14 at *
        try simp only [Act.put, List.setIfInBounds_toArray, List.set_cons_zero, List.set_cons_succ]
        refine efH (i := 25) rfl (by kernel_rfl) (by rfl) (fun KK hKK => ?_)
        refine wp_store_row 31 _ _ rfl x0.heap.size (vs T) rfl rfl 31 (vs (zs 33)) oY (by rw [t34.siz, vs_size, lT]) (by rw [vs_size, vs_size, zs_length, lT]) (vs_one _) ?_
        refine hKK.out _ _ (below_row hH hleY _) (fun hH => ?_)
        clear hKK KK
        replace oY := oY.row (vs T)
        replace oX := oX.rowOther x0.heap.size (vs T) (by omega)
        replace oZ := oZ.rowOther x0.heap.size (vs T) (by omega)
        generalize v14.setRow x0.heap.size (vs T) = v15 at *
        try simp only [Act.put, List.setIfInBounds_toArray, List.set_cons_zero, List.set_cons_succ]
        refine efH (i := 26) rfl (by kernel_rfl) (by rfl) (fun KK hKK => ?_)
        refine wp_store_row 31 _ _ rfl v12.heap.size (vs U) rfl rfl 31 (vs (zs 33)) oZ (by rw [t34.siz, vs_size, lU]) (by rw [vs_size, vs_size, zs_length, lU]) (vs_one _) ?_
        refine hKK.out _ _ (below_row hH hleZ _) (fun hH => ?_)
        clear hKK KK
        replace oZ := oZ.row (vs U)
        replace oX := oX.rowOther v12.heap.size (vs U) (by omega)
        replace oY := oY.rowOther v12.heap.size (vs U) (by omega)
        generalize v15.setRow v12.heap.size (vs U) = v16 at *
        try simp only [Act.put, List.setIfInBounds_toArray, List.set_cons_zero, List.set_cons_succ]
        refine wpAnyH_done (by kernel_rfl) ?_ _
        try simp only [Act.put, List.getElem_toArray, List.getElem_cons_zero, List.getElem_cons_succ, List.setIfInBounds_toArray, List.set_cons_zero, List.set_cons_succ]
        have dXZ : v11.heap.size ≠ v12.heap.size := by omega
        have dYZ : x0.heap.size ≠ v12.heap.size := by omega
        have hgx : g < x0.heap.size := World.block_lt_of_cell? _ _ (r0.cell (i := 0) (by rw [HK.out.2]; omega))
        have dgZ : g < v12.heap.size := Nat.lt_of_lt_of_le hgx hleZ
        replace bW := bW.trans (hH.mono (by have := bW.size; have := HG.out; omega))
        replace r0 := r0.below hH
        clear hH hleX hleY hleZ hxy hyz hgx
        generalize v11.heap.size = gX at oX dXZ ⊢
        generalize x0.heap.size = gY at oY dYZ ⊢
        generalize v12.heap.size = gZ at oZ dXZ dYZ dgZ ⊢
        exact rest gX gY gZ v16 ⟨oX, oY, oZ, r0, bW, dXZ, dYZ, dgZ⟩
      · refine wp_of_exec (exec_new z34 rfl v11) ?_
        have hleZ := hH.size
        refine hKK.out _ _ (hH.alloc hH.size _) (fun hH => ?_)
        clear hKK KK
        try simp only [Act.put, List.setIfInBounds_toArray, List.set_cons_zero, List.set_cons_succ]
        have hxy := oY.lt
        replace oY := oY.alloc (Obj.cells (vs (zs 33)) 31)
        have oZ := Own.new v11 31 (vs (zs 33))
        generalize v11.alloc (Obj.cells (vs (zs 33)) 31) = v17 at *
        refine efH (i := 21) rfl (by kernel_rfl) (by rfl) (fun KK hKK => ?_)
        refine wp_of_exec (exec_new z34 rfl v17) ?_
        have hleX := hH.size
        refine hKK.out _ _ (hH.alloc hH.size _) (fun hH => ?_)
        clear hKK KK
        try simp only [Act.put, List.setIfInBounds_toArray, List.set_cons_zero, List.set_cons_succ]
        have hyz := oZ.lt
        replace oY := oY.alloc (Obj.cells (vs (zs 33)) 31)
        replace oZ := oZ.alloc (Obj.cells (vs (zs 33)) 31)
        have oX := Own.new v17 31 (vs (zs 33))
        generalize v17.alloc (Obj.cells (vs (zs 33)) 31) = v18 at *
        refine efH (i := 24) rfl (by kernel_rfl) (by rfl) (fun KK hKK => ?_)
        refine wp_store_row 31 _ _ rfl v17.heap.size (vs S) rfl rfl 31 (vs (zs 33)) oX (by rw [t34.siz, vs_size, lS]) (by rw [vs_size, vs_size, zs_length, lS]) (vs_one _) ?_
        refine hKK.out _ _ (below_row hH hleX _) (fun hH => ?_)
        clear hKK KK
        replace oX := oX.row (vs S)
        replace oY := oY.rowOther v17.heap.size (vs S) (by omega)
        replace oZ := oZ.rowOther v17.heap.size (vs S) (by omega)
        generalize v18.setRow v17.heap.size (vs S) = v19 at *
        try simp only [Act.put, List.setIfInBounds_toArray, List.set_cons_zero, List.set_cons_succ]
        refine efH (i := 25) rfl (by kernel_rfl) (by rfl) (fun KK hKK => ?_)
        refine wp_store_row 31 _ _ rfl x0.heap.size (vs T) rfl rfl 31 (vs (zs 33)) oY (by rw [t34.siz, vs_size, lT]) (by rw [vs_size, vs_size, zs_length, lT]) (vs_one _) ?_
        refine hKK.out _ _ (below_row hH hleY _) (fun hH => ?_)
        clear hKK KK
        replace oY := oY.row (vs T)
        replace oX := oX.rowOther x0.heap.size (vs T) (by omega)
        replace oZ := oZ.rowOther x0.heap.size (vs T) (by omega)
        generalize v19.setRow x0.heap.size (vs T) = v20 at *
        try simp only [Act.put, List.setIfInBounds_toArray, List.set_cons_zero, List.set_cons_succ]
        refine efH (i := 26) rfl (by kernel_rfl) (by rfl) (fun KK hKK => ?_)
        refine wp_store_row 31 _ _ rfl v11.heap.size (vs U) rfl rfl 31 (vs (zs 33)) oZ (by rw [t34.siz, vs_size, lU]) (by rw [vs_size, vs_size, zs_length, lU]) (vs_one _) ?_
        refine hKK.out _ _ (below_row hH hleZ _) (fun hH => ?_)
        clear hKK KK
        replace oZ := oZ.row (vs U)
        replace oX := oX.rowOther v11.heap.size (vs U) (by omega)
        replace oY := oY.rowOther v11.heap.size (vs U) (by omega)
        generalize v20.setRow v11.heap.size (vs U) = v21 at *
        try simp only [Act.put, List.setIfInBounds_toArray, List.set_cons_zero, List.set_cons_succ]
        refine wpAnyH_done (by kernel_rfl) ?_ _
        try simp only [Act.put, List.getElem_toArray, List.getElem_cons_zero, List.getElem_cons_succ, List.setIfInBounds_toArray, List.set_cons_zero, List.set_cons_succ]
        have dXZ : v17.heap.size ≠ v11.heap.size := by omega
        have dYZ : x0.heap.size ≠ v11.heap.size := by omega
        have hgx : g < x0.heap.size := World.block_lt_of_cell? _ _ (r0.cell (i := 0) (by rw [HK.out.2]; omega))
        have dgZ : g < v11.heap.size := Nat.lt_of_lt_of_le hgx hleZ
        replace bW := bW.trans (hH.mono (by have := bW.size; have := HG.out; omega))
        replace r0 := r0.below hH
        clear hH hleX hleY hleZ hxy hyz hgx
        generalize v17.heap.size = gX at oX dXZ ⊢
        generalize x0.heap.size = gY at oY dYZ ⊢
        generalize v11.heap.size = gZ at oZ dXZ dYZ dgZ ⊢
        exact rest gX gY gZ v21 ⟨oX, oY, oZ, r0, bW, dXZ, dYZ, dgZ⟩
    · refine wp_of_exec (exec_new z34 rfl x0) ?_
      have hleZ := hH.size
      refine hKK.out _ _ (hH.alloc hH.size _) (fun hH => ?_)
      clear hKK KK
      try simp only [Act.put, List.setIfInBounds_toArray, List.set_cons_zero, List.set_cons_succ]
      have oZ := Own.new x0 31 (vs (zs 33))
      generalize x0.alloc (Obj.cells (vs (zs 33)) 31) = v22 at *
      refine efH2 (i := 21) (j := 22) rfl rfl (by kernel_rfl) (by rfl) (by rfl) (fun KK hKK => ?_) (fun KK hKK => ?_)
      · refine wp_of_exec (exec_new z34 rfl v22) ?_
        have hleX := hH.size
        refine hKK.out _ _ (hH.alloc hH.size _) (fun hH => ?_)
        clear hKK KK
        try simp only [Act.put, List.setIfInBounds_toArray, List.set_cons_zero, List.set_cons_succ]
        have hxy := oZ.lt
        replace oZ := oZ.alloc (Obj.cells (vs (zs 33)) 31)
        have oX := Own.new v22 31 (vs (zs 33))
        generalize v22.alloc (Obj.cells (vs (zs 33)) 31) = v23 at *
        refine efH (i := 22) rfl (by kernel_rfl) (by rfl) (fun KK hKK => ?_)
        refine wp_of_exec (exec_new z34 rfl v23) ?_
        have hleY := hH.size
        refine hKK.out _ _ (hH.alloc hH.size _) (fun hH => ?_)
        clear hKK KK
        try simp only [Act.put, List.setIfInBounds_toArray, List.set_cons_zero, List.set_cons_succ]
        have hyz := oX.lt
        replace oZ := oZ.alloc (Obj.cells (vs (zs 33)) 31)
        replace oX := oX.alloc (Obj.cells (vs (zs 33)) 31)
        have oY := Own.new v23 31 (vs (zs 33))
        generalize v23.alloc (Obj.cells (vs (zs 33)) 31) = v24 at *
        refine efH (i := 24) rfl (by kernel_rfl) (by rfl) (fun KK hKK => ?_)
        refine wp_store_row 31 _ _ rfl v22.heap.size (vs S) rfl rfl 31 (vs (zs 33)) oX (by rw [t34.siz, vs_size, lS]) (by rw [vs_size, vs_size, zs_length, lS]) (vs_one _) ?_
        refine hKK.out _ _ (below_row hH hleX _) (fun hH => ?_)
        clear hKK KK
        replace oX := oX.row (vs S)
        replace oY := oY.rowOther v22.heap.size (vs S) (by omega)
        replace oZ := oZ.rowOther v22.heap.size (vs S) (by omega)
        generalize v24.setRow v22.heap.size (vs S) = v25 at *
        try simp only [Act.put, List.setIfInBounds_toArray, List.set_cons_zero, List.set_cons_succ]
        refine efH (i := 25) rfl (by kernel_rfl) (by rfl) (fun KK hKK => ?_)
        refine wp_store_row 31 _ _ rfl v23.heap.size (vs T) rfl rfl 31 (vs (zs 33)) oY (by rw [t34.siz, vs_size, lT]) (by rw [vs_size, vs_size, zs_length, lT]) (vs_one _) ?_
        refine hKK.out _ _ (below_row hH hleY _) (fun hH => ?_)
        clear hKK KK
        replace oY := oY.row (vs T)
        replace oX := oX.rowOther v23.heap.size (vs T) (by omega)
        replace oZ := oZ.rowOther v23.heap.size (vs T) (by omega)
        generalize v25.setRow v23.heap.size (vs T) = v26 at *
        try simp only [Act.put, List.setIfInBounds_toArray, List.set_cons_zero, List.set_cons_succ]
        refine efH (i := 26) rfl (by kernel_rfl) (by rfl) (fun KK hKK => ?_)
        refine wp_store_row 31 _ _ rfl x0.heap.size (vs U) rfl rfl 31 (vs (zs 33)) oZ (by rw [t34.siz, vs_size, lU]) (by rw [vs_size, vs_size, zs_length, lU]) (vs_one _) ?_
        refine hKK.out _ _ (below_row hH hleZ _) (fun hH => ?_)
        clear hKK KK
        replace oZ := oZ.row (vs U)
        replace oX := oX.rowOther x0.heap.size (vs U) (by omega)
        replace oY := oY.rowOther x0.heap.size (vs U) (by omega)
        generalize v26.setRow x0.heap.size (vs U) = v27 at *
        try simp only [Act.put, List.setIfInBounds_toArray, List.set_cons_zero, List.set_cons_succ]
        refine wpAnyH_done (by kernel_rfl) ?_ _
        try simp only [Act.put, List.getElem_toArray, List.getElem_cons_zero, List.getElem_cons_succ, List.setIfInBounds_toArray, List.set_cons_zero, List.set_cons_succ]
        have dXZ : v22.heap.size ≠ x0.heap.size := by omega
        have dYZ : v23.heap.size ≠ x0.heap.size := by omega
        have hgx : g < x0.heap.size := World.block_lt_of_cell? _ _ (r0.cell (i := 0) (by rw [HK.out.2]; omega))
        have dgZ : g < x0.heap.size := Nat.lt_of_lt_of_le hgx hleZ
        replace bW := bW.trans (hH.mono (by have := bW.size; have := HG.out; omega))
        replace r0 := r0.below hH
        clear hH hleX hleY hleZ hxy hyz hgx
        generalize v22.heap.size = gX at oX dXZ ⊢
        generalize v23.heap.size = gY at oY dYZ ⊢
        generalize x0.heap.size = gZ at oZ dXZ dYZ dgZ ⊢
        exact rest gX gY gZ v27 ⟨oX, oY, oZ, r0, bW, dXZ, dYZ, dgZ⟩
      · refine wp_of_exec (exec_new z34 rfl v22) ?_
        have hleY := hH.size
        refine hKK.out _ _ (hH.alloc hH.size _) (fun hH => ?_)
        clear hKK KK
        try simp only [Act.put, List.setIfInBounds_toArray, List.set_cons_zero, List.set_cons_succ]
        have hxy := oZ.lt
        replace oZ := oZ.alloc (Obj.cells (vs (zs 33)) 31)
        have oY := Own.new v22 31 (vs (zs 33))
        generalize v22.alloc (Obj.cells (vs (zs 33)) 31) = v28 at *
        refine efH (i := 21) rfl (by kernel_rfl) (by rfl) (fun KK hKK => ?_)
        refine wp_of_exec (exec_new z34 rfl v28) ?_
        have hleX := hH.size
        refine hKK.out _ _ (hH.alloc hH.size _) (fun hH => ?_)
        clear hKK KK
        try simp only [Act.put, List.setIfInBounds_toArray, List.set_cons_zero, List.set_cons_succ]
        have hyz := oY.lt
        replace oZ := oZ.alloc (Obj.cells (vs (zs 33)) 31)
        replace oY := oY.alloc (Obj.cells (vs (zs 33)) 31)
        have oX := Own.new v28 31 (vs (zs 33))
        generalize v28.alloc (Obj.cells (vs (zs 33)) 31) = v29 at *
        refine efH (i := 24) rfl (by kernel_rfl) (by rfl) (fun KK hKK => ?_)
        refine wp_store_row 31 _ _ rfl v28.heap.size (vs S) rfl rfl 31 (vs (zs 33)) oX (by rw [t34.siz, vs_size, lS]) (by rw [vs_size, vs_size, zs_length, lS]) (vs_one _) ?_
        refine hKK.out _ _ (below_row hH hleX _) (fun hH => ?_)
        clear hKK KK
        replace oX := oX.row (vs S)
        replace oY := oY.rowOther v28.heap.size (vs S) (by omega)
        replace oZ := oZ.rowOther v28.heap.size (vs S) (by omega)
        generalize v29.setRow v28.heap.size (vs S) = v30 at *
        try simp only [Act.put, List.setIfInBounds_toArray, List.set_cons_zero, List.set_cons_succ]
        refine efH (i := 25) rfl (by kernel_rfl) (by rfl) (fun KK hKK => ?_)
        refine wp_store_row 31 _ _ rfl v22.heap.size (vs T) rfl rfl 31 (vs (zs 33)) oY (by rw [t34.siz, vs_size, lT]) (by rw [vs_size, vs_size, zs_length, lT]) (vs_one _) ?_
        refine hKK.out _ _ (below_row hH hleY _) (fun hH => ?_)
        clear hKK KK
        replace oY := oY.row (vs T)
        replace oX := oX.rowOther v22.heap.size (vs T) (by omega)
        replace oZ := oZ.rowOther v22.heap.size (vs T) (by omega)
        generalize v30.setRow v22.heap.size (vs T) = v31 at *
        try simp only [Act.put, List.setIfInBounds_toArray, List.set_cons_zero, List.set_cons_succ]
        refine efH (i := 26) rfl (by kernel_rfl) (by rfl) (fun KK hKK => ?_)
        refine wp_store_row 31 _ _ rfl x0.heap.size (vs U) rfl rfl 31 (vs (zs 33)) oZ (by rw [t34.siz, vs_size, lU]) (by rw [vs_size, vs_size, zs_length, lU]) (vs_one _) ?_
        refine hKK.out _ _ (below_row hH hleZ _) (fun hH => ?_)
        clear hKK KK
        replace oZ := oZ.row (vs U)
        replace oX := oX.rowOther x0.heap.size (vs U) (by omega)
        replace oY := oY.rowOther x0.heap.size (vs U) (by omega)
        generalize v31.setRow x0.heap.size (vs U) = v32 at *
        try simp only [Act.put, List.setIfInBounds_toArray, List.set_cons_zero, List.set_cons_succ]
        refine wpAnyH_done (by kernel_rfl) ?_ _
        try simp only [Act.put, List.getElem_toArray, List.getElem_cons_zero, List.getElem_cons_succ, List.setIfInBounds_toArray, List.set_cons_zero, List.set_cons_succ]
        have dXZ : v28.heap.size ≠ x0.heap.size := by omega
        have dYZ : v22.heap.size ≠ x0.heap.size := by omega
        have hgx : g < x0.heap.size := World.block_lt_of_cell? _ _ (r0.cell (i := 0) (by rw [HK.out.2]; omega))
        have dgZ : g < x0.heap.size := Nat.lt_of_lt_of_le hgx hleZ
        replace bW := bW.trans (hH.mono (by have := bW.size; have := HG.out; omega))
        replace r0 := r0.below hH
        clear hH hleX hleY hleZ hxy hyz hgx
        generalize v28.heap.size = gX at oX dXZ ⊢
        generalize v22.heap.size = gY at oY dYZ ⊢
        generalize x0.heap.size = gZ at oZ dXZ dYZ dgZ ⊢
        exact rest gX gY gZ v32 ⟨oX, oY, oZ, r0, bW, dXZ, dYZ, dgZ⟩
  · rintro gX gY gZ w5 ⟨oX, oY, oZ, r0, bW, dXZ, dYZ, dgZ⟩
    clear v1 v2 v3 wp1 wp2 wp3 an
    have rX := oX.rg
    have rY := oY.rg
    have rZ := oZ.rg
    have bS : Gf.Bytes S := by rw [← HS.out.1]; exact Sx.shr_bytes HK.out.1 HM.out.1 (by omega)
    have bT : Gf.Bytes T := by rw [← HS.out.2.1]; exact Sx.shr_bytes HK.out.1 HM.out.1 (by omega)
    have bU : Gf.Bytes U := by rw [← HS.out.2.2]; exact Sx.shr_bytes HK.out.1 HM.out.1 (by omega)
    have nS : Gf.nth S 0 = q1 + 1 := by rw [← HS.out.1, Sx.shr_head]
    have nT : Gf.nth T 0 = q2 + 1 := by rw [← HS.out.2.1, Sx.shr_head]
    have nU : Gf.nth U 0 = q3 + 1 := by rw [← HS.out.2.2, Sx.shr_head]
    by_cases d12 : q1 = q2
    · have hok : Sx.ok3 (Gf.nth S 0) (Gf.nth T 0) (Gf.nth U 0) = false := by
        rw [nS, nT, nU, Bool.eq_false_iff]
        intro h
        rw [Sx.ok3_iff] at h
        omega
      obtain ⟨Z, hZe⟩ : ∃ Z, Z = zs 32 := ⟨_, rfl⟩
      have sJ : ∀ P w, Ss w P 3 [S, T, U] → Calls Try.prog 9 #[.slice P 3 3] w fun e w' => e = .returned (.tuple #[.agg (vs Z), .int .i64 1]) ∧ Below w.heap.size w w' := fun P w h => (sjoin3 P 3 _ _ _ w h).mono fun e w' hh => ⟨by rw [jis_no hok hh.1, hZe], hh.2⟩
      have lz : Z.length = 32 := by rw [hZe]; exact zs_length _
      have bz : Gf.Bytes Z := by rw [hZe]; exact zs_bytes _
      obtain ⟨F1, hF1⟩ : ∃ F, F = [S, T, U].flatten := ⟨_, rfl⟩
      have HJ := Lib.hid (And.intro sJ (And.intro hF1 hZe))
      have HB := Lib.hid (And.intro bS (And.intro bT bU))
      have HN := Lib.hid (And.intro nS (And.intro nT nU))
      have t12 : ((q1 : Int) + 1 == (q2 : Int) + 1) = true := by rw [beq_iff_eq]; omega
      clear rX rY rZ sJ hF1 hZe bS bT bU nS nT nU hok
      have rX := oX.rg
      have rY := oY.rg
      have rZ := oZ.rg
      have oL := Own.new w5 31 (vs F1)
      have k1 : Below w5.heap.size w5 (w5.alloc (Obj.cells (vs F1) 31)) := (Below.refl _ _).alloc (Nat.le_refl _) _
      go_wp2_with (first | (refine ld t34 rfl rfl rfl rX lS ?_) | (refine ld t34 rfl rfl rfl rY lT ?_) | (refine ld t34 rfl rfl rfl rZ lU ?_) | (refine bsl3 lS lT lU HJ.out.2.1 rfl rfl rfl rfl rfl ?_))
      replace oX := oX.below k1
      replace oY := oY.below k1
      replace oZ := oZ.below k1
      replace r0 := r0.below k1
      replace bW := bW.trans (k1.mono (by have := bW.size; have := HG.out; omega))
      generalize w5.alloc (Obj.cells (vs F1) 31) = xa at *
      generalize w5.heap.size = xg at *
      refine (HJ.out.1 _ _ (ss_lit lS lT lU HB.out.1 HB.out.2.1 HB.out.2.2 (by rw [← HJ.out.2.1]; exact oL))).mono ?_
      rintro e xb ⟨rfl, hx⟩
      replace oX := oX.below hx
      replace oY := oY.below hx
      replace oZ := oZ.below hx
      replace r0 := r0.below hx
      replace bW := bW.trans (hx.mono (by have := bW.size; have := HG.out; omega))
      have hltx := oZ.lt
      have k2 : Below xb.heap.size xb (xb.alloc (Obj.cells (vs Z) 23)) := (Below.refl _ _).alloc (Nat.le_refl _) _
      have rJ := (Own.new xb 23 (vs Z)).rg
      replace oX := oX.below k2
      replace oY := oY.below k2
      replace oZ := oZ.below k2
      replace r0 := r0.below k2
      replace bW := bW.trans (k2.mono (by have := bW.size; have := HG.out; omega))
      clear hx oL k1 rX rY rZ
      have c1 := oX.cellb (i := 0) (by omega)
      have c2 := oY.cellb (i := 0) (by omega)
      have c3 := oZ.cellb (i := 0) (by omega)
      rw [HN.out.1] at c1
      rw [HN.out.2.1] at c2
      rw [HN.out.2.2] at c3
      clear oX oY oZ
      go_wp2_with (first | (refine alz z23 rfl rfl ?_) | (refine sto_new t23 rfl rfl rfl rfl rfl ((vs_size _).trans (zs_length _)) lz ?_) | (refine ldw t23 rfl rfl rfl rJ lz ?_) | (refine bldw rfl rfl ?_; rw [← HJ.out.2.2]) | (refine cmpw cmp23 false Z Z rfl rfl rfl rfl lz lz bz bz ?_))
      all_goals (try (exfalso; rename_i h; simp only [beq_iff_eq] at h; omega))
      refine (splits_any _).mono ?_
      rintro e yc ⟨rfl, hz⟩
      replace bW := bW.trans (hz.mono (by have := bW.size; have := HG.out; omega))
      clear hz
      go_wp2_with fail
      go_ret
      exact ⟨rfl, by rw [HG.out]; exact bW⟩
    by_cases d13 : q1 = q3
    · have hok : Sx.ok3 (Gf.nth S 0) (Gf.nth T 0) (Gf.nth U 0) = false := by
        rw [nS, nT, nU, Bool.eq_false_iff]
        intro h
        rw [Sx.ok3_iff] at h
        omega
      obtain ⟨Z, hZe⟩ : ∃ Z, Z = zs 32 := ⟨_, rfl⟩
      have sJ : ∀ P w, Ss w P 3 [S, T, U] → Calls Try.prog 9 #[.slice P 3 3] w fun e w' => e = .returned (.tuple #[.agg (vs Z), .int .i64 1]) ∧ Below w.heap.size w w' := fun P w h => (sjoin3 P 3 _ _ _ w h).mono fun e w' hh => ⟨by rw [jis_no hok hh.1, hZe], hh.2⟩
      have lz : Z.length = 32 := by rw [hZe]; exact zs_length _
      have bz : Gf.Bytes Z := by rw [hZe]; exact zs_bytes _
      obtain ⟨F1, hF1⟩ : ∃ F, F = [S, T, U].flatten := ⟨_, rfl⟩
      have HJ := Lib.hid (And.intro sJ (And.intro hF1 hZe))
      have HB := Lib.hid (And.intro bS (And.intro bT bU))
      have HN := Lib.hid (And.intro nS (And.intro nT nU))
      have t12 : ((q1 : Int) + 1 == (q2 : Int) + 1) = false := by rw [beq_eq_false_iff_ne]; omega
      have t13 : ((q1 : Int) + 1 == (q3 : Int) + 1) = true := by rw [beq_iff_eq]; omega
      clear rX rY rZ sJ hF1 hZe bS bT bU nS nT nU hok
      have rX := oX.rg
      have rY := oY.rg
      have rZ := oZ.rg
      have oL := Own.new w5 31 (vs F1)
      have k1 : Below w5.heap.size w5 (w5.alloc (Obj.cells (vs F1) 31)) := (Below.refl _ _).alloc (Nat.le_refl _) _
      go_wp2_with (first | (refine ld t34 rfl rfl rfl rX lS ?_) | (refine ld t34 rfl rfl rfl rY lT ?_) | (refine ld t34 rfl rfl rfl rZ lU ?_) | (refine bsl3 lS lT lU HJ.out.2.1 rfl rfl rfl rfl rfl ?_))
      replace oX := oX.below k1
      replace oY := oY.below k1
      replace oZ := oZ.below k1
      replace r0 := r0.below k1
      replace bW := bW.trans (k1.mono (by have := bW.size; have := HG.out; omega))
      generalize w5.alloc (Obj.cells (vs F1) 31) = xa at *
      generalize w5.heap.size = xg at *
      refine (HJ.out.1 _ _ (ss_lit lS lT lU HB.out.1 HB.out.2.1 HB.out.2.2 (by rw [← HJ.out.2.1]; exact oL))).mono ?_
      rintro e xb ⟨rfl, hx⟩
      replace oX := oX.below hx
      replace oY := oY.below hx
      replace oZ := oZ.below hx
      replace r0 := r0.below hx
      replace bW := bW.trans (hx.mono (by have := bW.size; have := HG.out; omega))
      have hltx := oZ.lt
      have k2 : Below xb.heap.size xb (xb.alloc (Obj.cells (vs Z) 23)) := (Below.refl _ _).alloc (Nat.le_refl _) _
      have rJ := (Own.new xb 23 (vs Z)).rg
      replace oX := oX.below k2
      replace oY := oY.below k2
      replace oZ := oZ.below k2
      replace r0 := r0.below k2
      replace bW := bW.trans (k2.mono (by have := bW.size; have := HG.out; omega))
      clear hx oL k1 rX rY rZ
      have c1 := oX.cellb (i := 0) (by omega)
      have c2 := oY.cellb (i := 0) (by omega)
      have c3 := oZ.cellb (i := 0) (by omega)
      rw [HN.out.1] at c1
      rw [HN.out.2.1] at c2
      rw [HN.out.2.2] at c3
      clear oX oY oZ
      go_wp2_with (first | (refine alz z23 rfl rfl ?_) | (refine sto_new t23 rfl rfl rfl rfl rfl ((vs_size _).trans (zs_length _)) lz ?_) | (refine ldw t23 rfl rfl rfl rJ lz ?_) | (refine bldw rfl rfl ?_; rw [← HJ.out.2.2]) | (refine cmpw cmp23 false Z Z rfl rfl rfl rfl lz lz bz bz ?_))
      all_goals (try (exfalso; rename_i h; simp only [beq_iff_eq] at h; omega))
      refine (splits_any _).mono ?_
      rintro e yc ⟨rfl, hz⟩
      replace bW := bW.trans (hz.mono (by have := bW.size; have := HG.out; omega))
      clear hz
      go_wp2_with fail
      go_ret
      exact ⟨rfl, by rw [HG.out]; exact bW⟩
    by_cases d23 : q2 = q3
    · have hok : Sx.ok3 (Gf.nth S 0) (Gf.nth T 0) (Gf.nth U 0) = false := by
        rw [nS, nT, nU, Bool.eq_false_iff]
        intro h
        rw [Sx.ok3_iff] at h
        omega
      obtain ⟨Z, hZe⟩ : ∃ Z, Z = zs 32 := ⟨_, rfl⟩
      have sJ : ∀ P w, Ss w P 3 [S, T, U] → Calls Try.prog 9 #[.slice P 3 3] w fun e w' => e = .returned (.tuple #[.agg (vs Z), .int .i64 1]) ∧ Below w.heap.size w w' := fun P w h => (sjoin3 P 3 _ _ _ w h).mono fun e w' hh => ⟨by rw [jis_no hok hh.1, hZe], hh.2⟩
      have lz : Z.length = 32 := by rw [hZe]; exact zs_length _
      have bz : Gf.Bytes Z := by rw [hZe]; exact zs_bytes _
      obtain ⟨F1, hF1⟩ : ∃ F, F = [S, T, U].flatten := ⟨_, rfl⟩
      have HJ := Lib.hid (And.intro sJ (And.intro hF1 hZe))
      have HB := Lib.hid (And.intro bS (And.intro bT bU))
      have HN := Lib.hid (And.intro nS (And.intro nT nU))
      have t12 : ((q1 : Int) + 1 == (q2 : Int) + 1) = false := by rw [beq_eq_false_iff_ne]; omega
      have t13 : ((q1 : Int) + 1 == (q3 : Int) + 1) = false := by rw [beq_eq_false_iff_ne]; omega
      have t23' : ((q2 : Int) + 1 == (q3 : Int) + 1) = true := by rw [beq_iff_eq]; omega
      clear rX rY rZ sJ hF1 hZe bS bT bU nS nT nU hok
      have rX := oX.rg
      have rY := oY.rg
      have rZ := oZ.rg
      have oL := Own.new w5 31 (vs F1)
      have k1 : Below w5.heap.size w5 (w5.alloc (Obj.cells (vs F1) 31)) := (Below.refl _ _).alloc (Nat.le_refl _) _
      go_wp2_with (first | (refine ld t34 rfl rfl rfl rX lS ?_) | (refine ld t34 rfl rfl rfl rY lT ?_) | (refine ld t34 rfl rfl rfl rZ lU ?_) | (refine bsl3 lS lT lU HJ.out.2.1 rfl rfl rfl rfl rfl ?_))
      replace oX := oX.below k1
      replace oY := oY.below k1
      replace oZ := oZ.below k1
      replace r0 := r0.below k1
      replace bW := bW.trans (k1.mono (by have := bW.size; have := HG.out; omega))
      generalize w5.alloc (Obj.cells (vs F1) 31) = xa at *
      generalize w5.heap.size = xg at *
      refine (HJ.out.1 _ _ (ss_lit lS lT lU HB.out.1 HB.out.2.1 HB.out.2.2 (by rw [← HJ.out.2.1]; exact oL))).mono ?_
      rintro e xb ⟨rfl, hx⟩
      replace oX := oX.below hx
      replace oY := oY.below hx
      replace oZ := oZ.below hx
      replace r0 := r0.below hx
      replace bW := bW.trans (hx.mono (by have := bW.size; have := HG.out; omega))
      have hltx := oZ.lt
      have k2 : Below xb.heap.size xb (xb.alloc (Obj.cells (vs Z) 23)) := (Below.refl _ _).alloc (Nat.le_refl _) _
      have rJ := (Own.new xb 23 (vs Z)).rg
      replace oX := oX.below k2
      replace oY := oY.below k2
      replace oZ := oZ.below k2
      replace r0 := r0.below k2
      replace bW := bW.trans (k2.mono (by have := bW.size; have := HG.out; omega))
      clear hx oL k1 rX rY rZ
      have c1 := oX.cellb (i := 0) (by omega)
      have c2 := oY.cellb (i := 0) (by omega)
      have c3 := oZ.cellb (i := 0) (by omega)
      rw [HN.out.1] at c1
      rw [HN.out.2.1] at c2
      rw [HN.out.2.2] at c3
      clear oX oY oZ
      go_wp2_with (first | (refine alz z23 rfl rfl ?_) | (refine sto_new t23 rfl rfl rfl rfl rfl ((vs_size _).trans (zs_length _)) lz ?_) | (refine ldw t23 rfl rfl rfl rJ lz ?_) | (refine bldw rfl rfl ?_; rw [← HJ.out.2.2]) | (refine cmpw cmp23 false Z Z rfl rfl rfl rfl lz lz bz bz ?_))
      all_goals (try (exfalso; rename_i h; simp only [beq_iff_eq] at h; omega))
      refine (splits_any _).mono ?_
      rintro e yc ⟨rfl, hz⟩
      replace bW := bW.trans (hz.mono (by have := bW.size; have := HG.out; omega))
      clear hz
      go_wp2_with fail
      go_ret
      exact ⟨rfl, by rw [HG.out]; exact bW⟩
    have hZ : Sx.at3 S T U 0 = K := by rw [← HS.out.1, ← HS.out.2.1, ← HS.out.2.2]; exact Sx.any_three HK.out.1 HM.out.1 HK.out.2 (by omega) (by omega) (by omega) (by omega) (by omega) (by omega)
    have hok : Sx.ok3 (Gf.nth S 0) (Gf.nth T 0) (Gf.nth U 0) = true := by rw [nS, nT, nU, Sx.ok3_iff]; omega
    have sJ : ∀ P w, Ss w P 3 [S, T, U] → Calls Try.prog 9 #[.slice P 3 3] w fun e w' => e = .returned (.tuple #[.agg (vs K), .int .i64 0]) ∧ Below w.heap.size w w' := fun P w h => (sjoin3 P 3 _ _ _ w h).mono fun e w' hh => ⟨by rw [jis_yes hok hh.1, hZ], hh.2⟩
    have lu1 := bU.at_ 1
    obtain ⟨U', hU'⟩ : ∃ U', U' = U.set 1 ((Gf.nth U 1 + 1) % 256) := ⟨_, rfl⟩
    have lU' : U'.length = 33 := by rw [hU', List.length_set, lU]
    have n0' : Gf.nth U' 0 = Gf.nth U 0 := by rw [hU', Gf.nth_eq, List.getElem?_set_ne (by omega)]; exact (Gf.nth_eq U 0).symm
    have n1' : Gf.nth U' 1 = (Gf.nth U 1 + 1) % 256 := by rw [hU', Gf.nth_eq, List.getElem?_set_self (by omega)]; rfl
    have bU' : Gf.Bytes U' := fun x hx => by
      rw [hU'] at hx
      rcases List.mem_or_eq_of_mem_set hx with h | h
      · exact bU x h
      · omega
    have hne : Sx.at3 S T U' 0 ≠ K := fun h => by
      rw [← hZ] at h
      have h0 := Sx.tab_inj h 0 (by omega)
      unfold Sx.tell at h0
      rw [n0'] at h0
      have := Sx.tell_inj (bS.at_ 0) (bT.at_ 0) (bU.at_ 0) (bS.at_ (1 + 0)) (bT.at_ (1 + 0)) (bU'.at_ (1 + 0)) (bU.at_ (1 + 0)) (by omega) (by omega) (by omega) (by omega) (by omega) h0
      simp only [Nat.add_zero] at this
      rw [n1'] at this
      omega
    have hok' : Sx.ok3 (Gf.nth S 0) (Gf.nth T 0) (Gf.nth U' 0) = true := by rw [n0']; exact hok
    have sJ' : ∀ P w, Ss w P 3 [S, T, U'] → Calls Try.prog 9 #[.slice P 3 3] w fun e w' => e = .returned (.tuple #[.agg (vs (Sx.at3 S T U' 0)), .int .i64 0]) ∧ Below w.heap.size w w' := fun P w h => (sjoin3 P 3 _ _ _ w h).mono fun e w' hh => ⟨by rw [jis_yes hok' hh.1], hh.2⟩
    have lJ : (Sx.at3 S T U' 0).length = 32 := Sx.tab_length _
    have bJ := Sx.at3_bytes bS bT bU' 0 (by omega)
    generalize Sx.at3 S T U' 0 = J at *
    have eJ : decide (J = K) = false := decide_eq_false hne
    have eK : decide (K = K) = true := decide_eq_true rfl
    have t12 : ((q1 : Int) + 1 == (q2 : Int) + 1) = false := by rw [beq_eq_false_iff_ne]; omega
    have t13 : ((q1 : Int) + 1 == (q3 : Int) + 1) = false := by rw [beq_eq_false_iff_ne]; omega
    have t23' : ((q2 : Int) + 1 == (q3 : Int) + 1) = false := by rw [beq_eq_false_iff_ne]; omega
    have wv : IntKind.u8.wrap ((Gf.nth U 1 : Int) + 1) = (((Gf.nth U 1 + 1) % 256 : Nat) : Int) := by rw [IntKind.wrap_u8]; omega
    obtain ⟨F1, hF1⟩ : ∃ F, F = [S, T, U].flatten := ⟨_, rfl⟩
    obtain ⟨F2, hF2⟩ : ∃ F, F = [S, T, U'].flatten := ⟨_, rfl⟩
    have HJ := Lib.hid (And.intro sJ (And.intro sJ' (And.intro hF1 (And.intro hF2 hU'))))
    have HB := Lib.hid (And.intro bS (And.intro bT (And.intro bU (And.intro bU' bJ))))
    have HN := Lib.hid (And.intro nS (And.intro nT nU))
    have lK := HK.out.2
    clear rX rY rZ sJ sJ' hF1 hF2 hU' bS bT bU bU' bJ nS nT nU hZ hok hok' n0' n1' hne
    have rX := oX.rg
    have rY := oY.rg
    have rZ := oZ.rg
    have oL := Own.new w5 31 (vs F1)
    have k1 : Below w5.heap.size w5 (w5.alloc (Obj.cells (vs F1) 31)) := (Below.refl _ _).alloc (Nat.le_refl _) _
    go_wp2_with (first | (refine ld t34 rfl rfl rfl rX lS ?_) | (refine ld t34 rfl rfl rfl rY lT ?_) | (refine ld t34 rfl rfl rfl rZ lU ?_) | (refine bsl3 lS lT lU HJ.out.2.2.1 rfl rfl rfl rfl rfl ?_))
    replace oX := oX.below k1
    replace oY := oY.below k1
    replace oZ := oZ.below k1
    replace r0 := r0.below k1
    replace bW := bW.trans (k1.mono (by have := bW.size; have := HG.out; omega))
    generalize w5.alloc (Obj.cells (vs F1) 31) = xa at *
    generalize w5.heap.size = xg at *
    refine (HJ.out.1 _ _ (ss_lit lS lT lU HB.out.1 HB.out.2.1 HB.out.2.2.1 (by rw [← HJ.out.2.2.1]; exact oL))).mono ?_
    rintro e xb ⟨rfl, hx⟩
    replace oX := oX.below hx
    replace oY := oY.below hx
    replace oZ := oZ.below hx
    replace r0 := r0.below hx
    replace bW := bW.trans (hx.mono (by have := bW.size; have := HG.out; omega))
    have hltx := oZ.lt
    have k2 : Below xb.heap.size xb (xb.alloc (Obj.cells (vs K) 23)) := (Below.refl _ _).alloc (Nat.le_refl _) _
    have rJ := (Own.new xb 23 (vs K)).rg
    replace oX := oX.below k2
    replace oY := oY.below k2
    replace oZ := oZ.below k2
    replace r0 := r0.below k2
    replace bW := bW.trans (k2.mono (by have := bW.size; have := HG.out; omega))
    clear hx oL k1 rX rY rZ
    have c1 := oX.cellb (i := 0) (by omega)
    have c2 := oY.cellb (i := 0) (by omega)
    have c3 := oZ.cellb (i := 0) (by omega)
    have c4 := oZ.cellb (i := 1) (by omega)
    have f4 := oZ.frozen 1
    rw [HN.out.1] at c1
    rw [HN.out.2.1] at c2
    rw [HN.out.2.2] at c3
    have hs5 := (sz1 xb (Obj.cells (vs K) 23)).symm
    obtain ⟨y, hy⟩ : ∃ y, y = (xb.alloc (Obj.cells (vs K) 23)).setCell ⟨gZ, 1, none⟩ (.int .u8 (((Gf.nth U 1 : Int) + 1) % 256)) := ⟨_, rfl⟩
    have wq : ((Gf.nth U 1 : Int) + 1) % 256 = (((Gf.nth U 1 + 1) % 256 : Nat) : Int) := by omega
    have hy' := hy
    rw [wq] at hy'
    have pX : Own y gX 31 (vs S) := by rw [hy]; exact oX.other _ _ dXZ
    have pY : Own y gY 31 (vs T) := by rw [hy]; exact oY.other _ _ dYZ
    have pZ : Own y gZ 31 (vs U') := by rw [hy', HJ.out.2.2.2.2]; exact oZ.setb 1 _
    have pK : Rg y g 0 K := by rw [hy]; exact rg_other r0 _ _ (Nat.ne_of_lt dgZ)
    have pJ : Rg y xb.heap.size 0 K := by rw [hy]; exact rg_other rJ _ _ (Nat.ne_of_gt hltx)
    have bY : Below g W y := by rw [hy]; exact bW.setCell (Nat.le_of_lt dgZ) _
    have rX := pX.rg
    have rY := pY.rg
    have rZ := pZ.rg
    have HY := Lib.hid hy
    clear hy hy' wq wv hltx
    have oL := Own.new y 31 (vs F2)
    have k1 : Below y.heap.size y (y.alloc (Obj.cells (vs F2) 31)) := (Below.refl _ _).alloc (Nat.le_refl _) _
    go_wp2_with (first | (refine alz z23 rfl rfl ?_) | (refine sto_new t23 rfl rfl rfl rfl rfl ((vs_size _).trans (zs_length _)) lK ?_) | (rw [← HY.out]; refine ld t34 rfl rfl rfl rX lS ?_) | (refine ld t34 rfl rfl rfl rY lT ?_) | (refine ld t34 rfl rfl rfl rZ lU' ?_) | (refine bsl3 lS lT lU' HJ.out.2.2.2.1 rfl rfl rfl rfl rfl ?_))
    all_goals (try (exfalso; rename_i h; simp only [beq_iff_eq] at h; omega))
    replace pK := pK.below k1
    replace pJ := pJ.below k1
    replace bY := bY.trans (k1.mono (by have := bY.size; have := HG.out; omega))
    generalize y.alloc (Obj.cells (vs F2) 31) = ya at *
    generalize y.heap.size = yg at *
    refine (HJ.out.2.1 _ _ (ss_lit lS lT lU' HB.out.1 HB.out.2.1 HB.out.2.2.2.1 (by rw [← HJ.out.2.2.2.1]; exact oL))).mono ?_
    rintro e yb ⟨rfl, hx⟩
    replace pK := pK.below hx
    replace pJ := pJ.below hx
    replace bY := bY.trans (hx.mono (by have := bY.size; have := HG.out; omega))
    have k2 : Below yb.heap.size yb (yb.alloc (Obj.cells (vs J) 23)) := (Below.refl _ _).alloc (Nat.le_refl _) _
    have rN := (Own.new yb 23 (vs J)).rg
    replace pK := pK.below k2
    replace pJ := pJ.below k2
    replace bY := bY.trans (k2.mono (by have := bY.size; have := HG.out; omega))
    clear hx oL k1 k2 rX rY rZ pX pY pZ oX oY oZ c1 c2 c3 c4 f4 bW r0 rJ
    have bK := HK.out.1
    have bJ := HB.out.2.2.2.2
    go_wp2_with (first | (refine alz z23 rfl rfl ?_) | (refine sto_new t23 rfl rfl rfl rfl rfl ((vs_size _).trans (zs_length _)) lJ ?_) | (refine ldw t23 rfl rfl rfl pJ lK ?_) | (refine ldw t23 rfl rfl rfl pK lK ?_) | (refine ldw t23 rfl rfl rfl rN lJ ?_) | (refine cmpw cmp23 false K K rfl rfl rfl rfl lK lK bK bK ?_) | (refine cmpw cmp23 true J K rfl rfl rfl rfl lJ lK bJ bK ?_))
    all_goals (try (exfalso; rename_i h; simp only [beq_iff_eq] at h; omega))
    refine (splits_any _).mono ?_
    rintro e yc ⟨rfl, hz⟩
    replace bY := bY.trans (hz.mono (by have := bY.size; have := HG.out; omega))
    clear hz
    go_wp2_with fail
    go_ret
    exact ⟨rfl, by rw [HG.out]; exact bY⟩
theorem walk (K M : List Nat) (n a1 a2 a3 : Nat) (hK : Gf.Bytes K) (lK : K.length = 32) (hM : Gf.Bytes M) (lM : M.length = 64) (hn : n < 256) (ha1 : a1 < 256) (ha2 : a2 < 256) (ha3 : a3 < 256) (W : World) :
    Calls Try.prog 4 #[.agg (vs K), .agg (vs M), .int .u8 (n : Int), .int .u8 (a1 : Int), .int .u8 (a2 : Int), .int .u8 (a3 : Int)] W fun e w' => e = .returned (.bool true) ∧ Below W.heap.size W w' :=
  walks K M n a1 a2 a3 hK lK hM lM hn ha1 ha2 ha3 W _ _ _ _ rfl rfl rfl rfl

set_option maxRecDepth 100000 in
theorem lifted (os : Os) (started : os.Started) (H : Type) (enc : TypeId × Value → H) :
    ReturnsInHanded {} Try.checked os 4 .any (Rows.topThreeSpec.pre6 enc Try.prog Try.f4 Rows.topThreeRow.domain false) (Rows.topThreeSpec.post enc Try.prog Try.f4 false true false false) := by
  refine returnsInHanded_of_change (C := Try.checked) own started (by kernel_rfl) Try.func4
    (ChangeSpec.witness6 (enc := enc) (C := Try.checked) false ⟨#[], #[.agg (Array.replicate 32 (.int .u8 0)), .agg (Array.replicate 64 (.int .u8 0)), .int .u8 0, .int .u8 0, .int .u8 0, .int .u8 0], []⟩ 8 (by kernel_rfl) (by kernel_rfl) (by kernel_rfl) (by kernel_rfl)) ?_
  intro W base args ds gs before hval0 hW hcnd _
  have hval : ∀ (j : Nat) t v, Try.f4.params[j]? = some t → args[j]? = some v → Value.okWide Try.prog W .any base t v := hval0
  have hW' := hW
  obtain ⟨p, q, hA0, hV, rfl, hfz, hnd⟩ := hW
  have hA : DataW.TrodAll enc Try.prog W 0 (fun _ => true) true Try.f4.params.toList args.toList ds p := hA0
  rw [Try.params4] at hA hval
  obtain ⟨v0, vs0, d0, ds0, p0, q0, hargs, rfl, rfl, h0, r0⟩ := trodAll_cons hA
  obtain ⟨v1, vs1, d1, ds1, p1, q1, rfl, rfl, rfl, h1, r1⟩ := trodAll_cons r0
  obtain ⟨v2, vs2, d2, ds2, p2, q2, rfl, rfl, rfl, h2, r2⟩ := trodAll_cons r1
  obtain ⟨v3, vs3, d3, ds3, p3, q3, rfl, rfl, rfl, h3, r3⟩ := trodAll_cons r2
  obtain ⟨v4, vs4, d4, ds4, p4, q4, rfl, rfl, rfl, h4, r4⟩ := trodAll_cons r3
  obtain ⟨v5, vs5, d5, ds5, p5, q5, rfl, rfl, rfl, h5, r5⟩ := trodAll_cons r4
  obtain ⟨rfl, rfl, rfl⟩ := trodAll_nil r5
  obtain rfl : args = #[v0, v1, v2, v3, v4, v5] := by cases args; simp_all
  obtain ⟨rfl, rfl⟩ := trodVars_none hV
  obtain ⟨K0, rfl, l0, b0⟩ := okKey (hval 0 23 v0 rfl rfl)
  have k0 := h0
  have lt0 : ∀ x ∈ p0, x.block < W.heap.size := by obtain ⟨m, hm⟩ := k0; exact DataW.trod_lt m _ _ _ hm
  obtain ⟨K1, rfl, l1, b1⟩ := okNoise (hval 1 24 v1 rfl rfl)
  have k1 := h1
  have lt1 : ∀ x ∈ p1, x.block < W.heap.size := by obtain ⟨m, hm⟩ := k1; exact DataW.trod_lt m _ _ _ hm
  obtain ⟨n2, rfl, rfl, rfl, w2⟩ := open_int Try.underlying5 (hval 2 5 v2 rfl rfl) h2
  obtain ⟨m2, rfl, z2⟩ := nat_u8 w2
  obtain ⟨n3, rfl, rfl, rfl, w3⟩ := open_int Try.underlying5 (hval 3 5 v3 rfl rfl) h3
  obtain ⟨m3, rfl, z3⟩ := nat_u8 w3
  obtain ⟨n4, rfl, rfl, rfl, w4⟩ := open_int Try.underlying5 (hval 4 5 v4 rfl rfl) h4
  obtain ⟨m4, rfl, z4⟩ := nat_u8 w4
  obtain ⟨n5, rfl, rfl, rfl, w5⟩ := open_int Try.underlying5 (hval 5 5 v5 rfl rfl) h5
  obtain ⟨m5, rfl, z5⟩ := nat_u8 w5
  clear hA0 hval0
  refine (walk K0 K1 m2 m3 m4 m5 b0 l0 b1 l1 z2 z3 z4 z5 W).mono fun e W' ⟨he, bel⟩ => ?_
  subst he
  exact ⟨_, rfl, _, _, _, [], _, [], hW', trodAll_mk1 (shut_bool Try.underlying4 _), (trodAll_cons_mk (Below.trod laidOut (by kernel_rfl) (of_decide_eq_true (by kernel_rfl)) k0 bel lt0) (trodAll_cons_mk (Below.trod laidOut (by kernel_rfl) (of_decide_eq_true (by kernel_rfl)) k1 bel lt1) (trodAll_cons_mk (shut_int Try.underlying5 w2) (trodAll_cons_mk (shut_int Try.underlying5 w3) (trodAll_cons_mk (shut_int Try.underlying5 w4) (trodAll_cons_mk (shut_int Try.underlying5 w5) trodAll_mk0)))))), rfl, bel.frame _, fun h => by cases h⟩

theorem over : Rows.topThreeRow.holds Try.pinned (OpenSpec.ofChange Rows.topThreeSpec) :=
  OpenClaim.holds_of_wide 4 Try.f4 rfl rfl rfl rfl rfl rfl rfl ⟨rfl, rfl, rfl, rfl, rfl⟩ rfl rfl rfl rfl rfl (by kernel_rfl) Try.func4 (by kernel_rfl)
    (of_decide_eq_true (by kernel_rfl)) (by unfold Func.isWrapper; first | (rw [if_pos (by decide +kernel)]; kernel_rfl) | (rw [if_neg (by decide +kernel)]; exact ⟨rfl, rfl⟩))
    (fun os started H enc _ => lifted os started H enc)

/-- the statement -/
theorem proved : Rows.TopThreeSaid := over
end Go.Proofs.Ytkilphanbookkaa.topThree
