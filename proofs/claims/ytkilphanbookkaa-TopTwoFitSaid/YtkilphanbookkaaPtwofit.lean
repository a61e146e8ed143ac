/-
  For every two secrets, noise, number and two picks TopTwoFit answers true: whatever two shares of a secret are, they are shares of any other secret, too, with the noise that is reckoned from them; the arguments read as before.
-/
import Derived.Test.YtkilphanbookkaaRows
import Derived.Test.YtkilphanbookkaaOk
import Derived.WalkKit
import Derived.ProofKit
import Derived.OpenShut
import Derived.ShutString
import Derived.Test.YtkilphanbookkaaSl
namespace Go.Proofs.Ytkilphanbookkaa.topTwoFit
open Go.ChangeShapes Go.WideShapes Go.ChangeAt Go.RowKit
open Go.ChangeMaps (open_string shut_string)
set_option linter.unusedVariables false
set_option linter.unusedSimpArgs false

theorem own : ownKnob Try.prog.godebug = none := by kernel_rfl
def Sx.fp (S O : List Nat) (k : Nat) : Nat := Gf.mul (Gf.nth S (1 + k) ^^^ Gf.nth O k) (Gf.inv (Gf.nth S 0))
def Sx.fh (S T O : List Nat) (k : Nat) : Nat := Gf.mul (Sx.fp S O k ^^^ Sx.fp T O k) (Gf.inv (Gf.nth S 0 ^^^ Gf.nth T 0))
def Sx.fl (S T O : List Nat) (k : Nat) : Nat := Sx.fp S O k ^^^ Gf.mul (Sx.fh S T O k) (Gf.nth S 0)
/-- the noise that is reckoned, filled up to a place -/
def Sx.nz (S T O : List Nat) (k : Nat) : List Nat := fil 32 (Sx.fl S T O) k ++ fil 32 (Sx.fh S T O) k
theorem Sx.fp_lt {S O : List Nat} (bS : Gf.Bytes S) (bO : Gf.Bytes O) (k : Nat) : Sx.fp S O k < 256 := Gf.mul_lt _ _ (Gf.xor_lt (bS.at_ _) (bO.at_ _))
theorem Sx.fh_lt {S T O : List Nat} (bS : Gf.Bytes S) (bT : Gf.Bytes T) (bO : Gf.Bytes O) (k : Nat) : Sx.fh S T O k < 256 := Gf.mul_lt _ _ (Gf.xor_lt (Sx.fp_lt bS bO k) (Sx.fp_lt bT bO k))
theorem Sx.fl_lt {S T O : List Nat} (bS : Gf.Bytes S) (bT : Gf.Bytes T) (bO : Gf.Bytes O) (k : Nat) : Sx.fl S T O k < 256 := Gf.xor_lt (Sx.fp_lt bS bO k) (Gf.mul_lt _ _ (Sx.fh_lt bS bT bO k))
theorem Sx.nz_length (S T O : List Nat) (k : Nat) : (Sx.nz S T O k).length = 64 := by simp [Sx.nz, fil_length]
theorem Sx.nz_zero (S T O : List Nat) : Sx.nz S T O 0 = zs 64 := by rw [Sx.nz, fil_zero, fil_zero]; rfl
theorem Sx.nz_hi (S T O : List Nat) {k : Nat} (hk : k < 32) : (Sx.nz S T O k).set (32 + k) (Sx.fh S T O k) = fil 32 (Sx.fl S T O) k ++ fil 32 (Sx.fh S T O) (k + 1) := by
  rw [Sx.nz, List.set_append_right _ _ (by rw [fil_length]; omega), fil_length, Nat.add_sub_cancel_left, fil_set _ _ _ hk]
theorem Sx.nz_lo (S T O : List Nat) {k : Nat} (hk : k < 32) : (fil 32 (Sx.fl S T O) k ++ fil 32 (Sx.fh S T O) (k + 1)).set k (Sx.fl S T O k) = Sx.nz S T O (k + 1) := by
  rw [Sx.nz, List.set_append_left _ _ (by rw [fil_length]; omega), fil_set _ _ _ hk]
theorem fil_nth {n : Nat} (f : Nat → Nat) {i k : Nat} (hi : i < n) (hk : i < k) : Gf.nth (fil n f k) i = f i := by
  rw [Gf.nth_eq]; simp [fil, hi, hk]
theorem fil_bytes {n : Nat} {f : Nat → Nat} (h : ∀ i, f i < 256) (k : Nat) : Gf.Bytes (fil n f k) := fun x hx => by
  simp only [fil, List.mem_map, List.mem_range] at hx
  obtain ⟨i, _, rfl⟩ := hx
  split
  · exact h i
  · omega
theorem nth_left {l m : List Nat} {i : Nat} (h : i < l.length) : Gf.nth (l ++ m) i = Gf.nth l i := by
  rw [Gf.nth_eq, Gf.nth_eq, List.getElem?_append_left h]
theorem nth_right {l m : List Nat} {i j : Nat} (h : i = l.length + j) : Gf.nth (l ++ m) i = Gf.nth m j := by
  subst h
  rw [Gf.nth_eq, Gf.nth_eq, List.getElem?_append_right (by omega), Nat.add_sub_cancel_left]
theorem Sx.nz_bytes {S T O : List Nat} (bS : Gf.Bytes S) (bT : Gf.Bytes T) (bO : Gf.Bytes O) (k : Nat) : Gf.Bytes (Sx.nz S T O k) := fun x hx => by
  rcases List.mem_append.mp hx with h | h
  · exact fil_bytes (Sx.fl_lt bS bT bO) _ x h
  · exact fil_bytes (Sx.fh_lt bS bT bO) _ x h
/-- the two shares are shares of the other secret, with this noise -/
theorem Sx.fits_two {S T O : List Nat} (bS : Gf.Bytes S) (bT : Gf.Bytes T) (bO : Gf.Bytes O) (lS : S.length = 33) (lT : T.length = 33) (s0 : Gf.nth S 0 ≠ 0) (t0 : Gf.nth T 0 ≠ 0) (hst : Gf.nth S 0 ≠ Gf.nth T 0) :
    Sx.shr O (Sx.nz S T O 32) (Gf.nth S 0) = S ∧ Sx.shr O (Sx.nz S T O 32) (Gf.nth T 0) = T := by
  have key : ∀ i, i < 32 → Gf.ev [Gf.nth O i, Gf.nth (Sx.nz S T O 32) i, Gf.nth (Sx.nz S T O 32) (32 + i)] (Gf.nth S 0) = Gf.nth S (1 + i) ∧ Gf.ev [Gf.nth O i, Gf.nth (Sx.nz S T O 32) i, Gf.nth (Sx.nz S T O 32) (32 + i)] (Gf.nth T 0) = Gf.nth T (1 + i) := fun i hi => by
    have e1 : Gf.nth (Sx.nz S T O 32) i = Sx.fl S T O i := by rw [Sx.nz, nth_left (by rw [fil_length]; exact hi), fil_nth _ hi hi]
    have e2 : Gf.nth (Sx.nz S T O 32) (32 + i) = Sx.fh S T O i := by rw [Sx.nz, nth_right (j := i) (by rw [fil_length]), fil_nth _ hi hi]
    rw [e1, e2]
    exact Sx.fit_two (bS.at_ _) (bT.at_ _) (bO.at_ _) (bS.at_ _) (bT.at_ _) s0 t0 hst rfl rfl rfl
  have tl : ∀ U : List Nat, U.length = 33 → ∀ f : Nat → Nat, (∀ i, i < 32 → f i = Gf.nth U (1 + i)) → Gf.nth U 0 :: Sx.tab f = U := fun U lU f hf => by
    apply List.ext_getElem?
    intro i
    cases i with
    | zero =>
      rw [List.getElem?_cons_zero, Gf.nth_eq]
      cases U with
      | nil => simp at lU
      | cons x t => simp
    | succ j =>
      rw [List.getElem?_cons_succ]
      by_cases hj : j < 32
      · have h1 := hf j hj
        rw [Gf.nth_eq] at h1
        have h2 : j + 1 < U.length := by omega
        rw [Nat.add_comm 1 j, List.getElem?_eq_getElem h2] at h1
        rw [List.getElem?_eq_getElem h2]
        simp only [Sx.tab, List.getElem?_map, List.getElem?_range hj, Option.map_some]
        rw [h1]; rfl
      · rw [List.getElem?_eq_none (by rw [Sx.tab_length]; omega), List.getElem?_eq_none (by omega)]
  exact ⟨tl S lS _ fun i hi => (key i hi).1, tl T lT _ fun i hi => (key i hi).2⟩
theorem z24 : ZT 24 64 := fun w => by kernel_rfl
theorem rg_belowB {w w' : World} {b o B : Nat} {l : List Nat} (h : Rg w b o l) (hx : Below B w w') (hb : b < B) : Rg w' b o l := fun j v hj => (hx.cell (p := ⟨b, o + j, none⟩) hb).trans (h j v hj)
theorem ycmp_same {t : TypeId} {c : Nat} (T : CmpT t c) {ops : Array Oper} {o : Oper} {a : Act} {p q : Operand} {u : TypeId} (x : List Nat)
    (hgd : Region.wanted o (yielded ops a.tmps) = true) (ho : o.op = .binOp .eql t p q u) (hp : a.eval p = .agg (vs x)) (hq : a.eval q = .agg (vs x))
    (hx : x.length = c) (bx : Gf.Bytes x) : Yields Try.prog ops o (.bool true) a := by
  have h := ycmp T false x x hgd ho hp hq hx hx bx bx
  rwa [show (decide (x = x) != false) = true from by simp] at h
theorem late2 {G : Prop} {F : Nat → Nat → World → Prop} (P : Nat → Nat → World → Prop) (main : (∀ a b w, P a b w → F a b w) → G) (rest : ∀ a b w, P a b w → F a b w) : G := main rest
set_option maxRecDepth 100000 in
set_option maxHeartbeats 8000000 in
theorem walks (K O M : List Nat) (n a1 a2 : Nat) (hK : Gf.Bytes K) (lK : K.length = 32) (hO : Gf.Bytes O) (lO : O.length = 32) (hM : Gf.Bytes M) (lM : M.length = 64) (hn : n < 256) (ha1 : a1 < 256) (ha2 : a2 < 256) (W : World)
    (a q1 q2 : Nat) (ha : a = 3 + n % 200) (e1 : q1 = a1 % a) (e2 : q2 = a2 % a) :
    Calls Try.prog 3 #[.agg (vs K), .agg (vs O), .agg (vs M), .int .u8 (n : Int), .int .u8 (a1 : Int), .int .u8 (a2 : Int)] W fun e w' => e = .returned (.bool true) ∧ Below W.heap.size W w' := by
  have HK := Lib.hid (And.intro hK lK)
  have HO := Lib.hid (And.intro hO lO)
  have HM := Lib.hid (And.intro hM lM)
  have hMs : (bs M).size = 64 := by rw [bs_size, lM]
  have la : 3 ≤ a := by omega
  have ua : a ≤ 202 := by omega
  have ap : 0 < a := by omega
  have m1 : q1 < a := by rw [e1]; exact Nat.mod_lt _ ap
  have m2 : q2 < a := by rw [e2]; exact Nat.mod_lt _ ap
  have z1 : W.heap.size + 1 = (W.alloc (Obj.cells (vs K) 23)).heap.size := sz1 _ _
  have z2 : W.heap.size + 1 + 1 = ((W.alloc (Obj.cells (vs K) 23)).alloc (Obj.cells (vs O) 23)).heap.size := by rw [z1]; exact sz1 _ _
  have o0 := ((Own.new W 23 (vs K)).alloc (Obj.cells (vs O) 23)).alloc (Obj.cells (vs M) 24)
  have o1 := (Own.new' (W.alloc (Obj.cells (vs K) 23)) 23 (vs O) z1).alloc (Obj.cells (vs M) 24)
  have o2 := Own.new' ((W.alloc (Obj.cells (vs K) 23)).alloc (Obj.cells (vs O) 23)) 24 (vs M) z2
  have bW := (((Below.refl W.heap.size W).alloc (Nat.le_refl _) (Obj.cells (vs K) 23)).alloc (by omega) (Obj.cells (vs O) 23)).alloc (by omega) (Obj.cells (vs M) 24)
  have hs1 := fun w => ssplit_ok K (bs M) a hK lK hMs la (by omega) w
  rw [toN_bs hM] at hs1
  clear hK lK hO lO hM lM z1 z2 hMs
  have ea : 3 + (n : Int) % 200 = (a : Int) := by omega
  have v1 : Int.tmod (a1 : Int) (a : Int) = (q1 : Int) := by rw [e1]; exact (Int.ofNat_tmod _ _).symm
  have v2 : Int.tmod (a2 : Int) (a : Int) = (q2 : Int) := by rw [e2]; exact (Int.ofNat_tmod _ _).symm
  have wp1 : IntKind.i64.wrap (a1 : Int) = (a1 : Int) := IntWalk.i64_in _ (by omega)
  have wp2 : IntKind.i64.wrap (a2 : Int) = (a2 : Int) := IntWalk.i64_in _ (by omega)
  have HV := Lib.hid (And.intro v1 (And.intro v2 (And.intro wp1 wp2)))
  clear ha e1 e2 v1 v2 wp1 wp2
  go_enter Try.func3, Try.ntmps3
  go_wp2_with fail
  generalize hw1 : ((W.alloc (Obj.cells (vs K) 23)).alloc (Obj.cells (vs O) 23)).alloc (Obj.cells (vs M) 24) = w1 at *
  have HW1 := Lib.hid hw1
  clear hw1
  have r0 := o0.rg
  have r1 := o1.rg
  have r2 := o2.rg
  clear o0 o1 o2
  replace r0 := r0.drew
  replace r1 := r1.drew
  replace r2 := r2.drew
  replace bW := bW.drew
  refine wp_region_held_drew (S := fun w' => Below w1.drew.heap.size w1.drew w') (by kernel_rfl) (Below.refl _ _) (fun hH => ?_)
  generalize w1.drew = w2 at *
  refine tkH (i := 0) rfl (by kernel_rfl) (by kernel_rfl) (by kernel_rfl) (fun _ _ _ h => h) hH (yld t23 (by rfl) rfl rfl K r0 HK.out.2) ?_
  try simp only [Act.put, List.setIfInBounds_toArray, List.set_cons_zero, List.set_cons_succ]
  refine tkH (v := ?_) (i := 1) rfl (by kernel_rfl) (by kernel_rfl) (by kernel_rfl) (fun _ _ _ h => h) hH (Or.inl ⟨by rfl, ?_⟩) ?_
  rotate_left
  · intro wq hq
    go_simp
    try rfl
  try simp only [Act.put, List.setIfInBounds_toArray, List.set_cons_zero, List.set_cons_succ]
  refine tkH (v := ?_) (i := 2) rfl (by kernel_rfl) (by kernel_rfl) (by kernel_rfl) (fun _ _ _ h => h) hH (Or.inl ⟨by rfl, ?_⟩) ?_
  rotate_left
  · intro wq hq
    go_simp
    try rfl
  try simp only [Act.put, List.setIfInBounds_toArray, List.set_cons_zero, List.set_cons_succ]
  refine tkH (v := ?_) (i := 3) rfl (by kernel_rfl) (by kernel_rfl) (by kernel_rfl) (fun _ _ _ h => h) hH (Or.inl ⟨by rfl, ?_⟩) ?_
  rotate_left
  · intro wq hq
    have hcv := conv_bs wq (W.heap.size + 2) 0 M 64 64 HM.out.2 (r2.below hq)
    go_simp
    try rfl
  try simp only [Act.put, List.setIfInBounds_toArray, List.set_cons_zero, List.set_cons_succ]
  refine efH (i := 4) rfl (by kernel_rfl) (by rfl) (fun KK hKK => ?_)
  go_simp
  refine (hs1 _).mono ?_
  rintro e w3 ⟨⟨A, c, rfl, s1, hc⟩, hx⟩
  have hH' := hH.trans (hx.mono hH.size)
  go_wp2_with fail
  refine hKK.out _ _ hH' (fun hH => ?_)
  clear hKK KK hH'
  try simp only [Act.put, List.setIfInBounds_toArray, List.set_cons_zero, List.set_cons_succ]
  refine tkH (v := ?_) (i := 5) rfl (by kernel_rfl) (by kernel_rfl) (by kernel_rfl) (fun _ _ _ h => h) hH (Or.inl ⟨by rfl, ?_⟩) ?_
  rotate_left
  · intro wq hq
    go_simp
    try rfl
  try simp only [Act.put, List.setIfInBounds_toArray, List.set_cons_zero, List.set_cons_succ]
  refine tkH (v := ?_) (i := 6) rfl (by kernel_rfl) (by kernel_rfl) (by kernel_rfl) (fun _ _ _ h => h) hH (Or.inl ⟨by rfl, ?_⟩) ?_
  rotate_left
  · intro wq hq
    go_simp
    try rfl
  try simp only [Act.put, List.setIfInBounds_toArray, List.set_cons_zero, List.set_cons_succ]
  refine tkH (v := ?_) (i := 7) rfl (by kernel_rfl) (by kernel_rfl) (by kernel_rfl) (fun _ _ _ h => h) hH (Or.inl ⟨by rfl, ?_⟩) ?_
  rotate_left
  · intro wq hq
    go_simp
    try rfl
  try simp only [Act.put, List.setIfInBounds_toArray, List.set_cons_zero, List.set_cons_succ]
  refine tkH (v := ?_) (i := 8) rfl (by kernel_rfl) (by kernel_rfl) (by kernel_rfl) (fun _ _ _ h => h) hH (Or.inl ⟨by rfl, ?_⟩) ?_
  rotate_left
  · intro wq hq
    go_simp
    try rfl
  try simp only [Act.put, List.setIfInBounds_toArray, List.set_cons_zero, List.set_cons_succ]
  refine tkH (v := ?_) (i := 9) rfl (by kernel_rfl) (by kernel_rfl) (by kernel_rfl) (fun _ _ _ h => h) hH (Or.inl ⟨by rfl, ?_⟩) ?_
  rotate_left
  · intro wq hq
    go_simp
    try rfl
  try simp only [Act.put, List.setIfInBounds_toArray, List.set_cons_zero, List.set_cons_succ]
  refine wpAnyH_done (by kernel_rfl) ?_ _
  try simp only [Act.put, List.getElem_toArray, List.getElem_cons_zero, List.getElem_cons_succ, List.setIfInBounds_toArray, List.set_cons_zero, List.set_cons_succ]
  replace bW := bW.trans (hH.mono bW.size)
  replace r1 := r1.below hH
  clear hs1 hx hH r0 r2
  obtain ⟨b, o, rfl, hsh⟩ := share_at s1 ap
  have hln := s1.1
  clear s1
  have rS := hsh q1 m1
  have rT := hsh q2 m2
  clear hsh hln
  have lS := Sx.shr_length K M (q1 + 1)
  have lT := Sx.shr_length K M (q2 + 1)
  obtain ⟨v1, v2, wp1, wp2⟩ := HV.out
  have an : ¬ a = 0 := by omega
  have i1 : (q1 : Int) < (a : Int) := by omega
  have i2 : (q2 : Int) < (a : Int) := by omega
  generalize hS : Sx.shr K M (q1 + 1) = S at *
  generalize hT : Sx.shr K M (q2 + 1) = T at *
  have HS := Lib.hid (And.intro hS hT)
  clear hS hT
  generalize hg : W.heap.size = g at *
  have HG := Lib.hid hg
  clear hg
  go_wp2_with fail
  apply late2 (fun (gX gY : Nat) (wF : World) => Own wF gX 31 (vs S) ∧ Own wF gY 31 (vs T) ∧ Rg wF (g + 1) 0 O ∧ Below g W wF)
  · intro rest
    replace r1 := r1.drew
    replace rS := rS.drew
    replace rT := rT.drew
    replace bW := bW.drew
    refine wp_region_held_drew (S := fun w' => Below w3.drew.heap.size w3.drew w') (by kernel_rfl) (Below.refl _ _) (fun hH => ?_)
    generalize w3.drew = x0 at *
    refine tkH (v := ?_) (i := 0) rfl (by kernel_rfl) (by kernel_rfl) (by kernel_rfl) (fun _ _ _ h => h) hH (Or.inl ⟨by rfl, ?_⟩) ?_
    rotate_left
    · intro wq hq
      go_simp
      try rfl
    try simp only [Act.put, List.setIfInBounds_toArray, List.set_cons_zero, List.set_cons_succ]
    refine tkH (v := ?_) (i := 1) rfl (by kernel_rfl) (by kernel_rfl) (by kernel_rfl) (fun _ _ _ h => h) hH (Or.inl ⟨by rfl, ?_⟩) ?_
    rotate_left
    · intro wq hq
      go_simp
      try rfl
    try simp only [Act.put, List.setIfInBounds_toArray, List.set_cons_zero, List.set_cons_succ]
    refine tkH (v := ?_) (i := 2) rfl (by kernel_rfl) (by kernel_rfl) (by kernel_rfl) (fun _ _ _ h => h) hH (Or.inl ⟨by rfl, ?_⟩) ?_
    rotate_left
    · intro wq hq
      go_simp
      try rfl
    try simp only [Act.put, List.setIfInBounds_toArray, List.set_cons_zero, List.set_cons_succ]
    refine tkH (v := ?_) (i := 3) rfl (by kernel_rfl) (by kernel_rfl) (by kernel_rfl) (fun _ _ _ h => h) hH (Or.inl ⟨by rfl, ?_⟩) ?_
    rotate_left
    · intro wq hq
      go_simp
      try rfl
    try simp only [Act.put, List.setIfInBounds_toArray, List.set_cons_zero, List.set_cons_succ]
    refine tkH (v := ?_) (i := 4) rfl (by kernel_rfl) (by kernel_rfl) (by kernel_rfl) (fun _ _ _ h => h) hH (Or.inl ⟨by rfl, ?_⟩) ?_
    rotate_left
    · intro wq hq
      go_simp
      try rfl
    try simp only [Act.put, List.setIfInBounds_toArray, List.set_cons_zero, List.set_cons_succ]
    refine tkH (v := ?_) (i := 5) rfl (by kernel_rfl) (by kernel_rfl) (by kernel_rfl) (fun _ _ _ h => h) hH (Or.inl ⟨by rfl, ?_⟩) ?_
    rotate_left
    · intro wq hq
      go_simp
      try rfl
    try simp only [Act.put, List.setIfInBounds_toArray, List.set_cons_zero, List.set_cons_succ]
    refine tkH (i := 6) rfl (by kernel_rfl) (by kernel_rfl) (by kernel_rfl) (fun _ _ _ h => h) hH (yld t34 (by rfl) rfl rfl S rS lS) ?_
    try simp only [Act.put, List.setIfInBounds_toArray, List.set_cons_zero, List.set_cons_succ]
    refine tkH (v := ?_) (i := 7) rfl (by kernel_rfl) (by kernel_rfl) (by kernel_rfl) (fun _ _ _ h => h) hH (Or.inl ⟨by rfl, ?_⟩) ?_
    rotate_left
    · intro wq hq
      go_simp
      try rfl
    try simp only [Act.put, List.setIfInBounds_toArray, List.set_cons_zero, List.set_cons_succ]
    refine tkH (v := ?_) (i := 8) rfl (by kernel_rfl) (by kernel_rfl) (by kernel_rfl) (fun _ _ _ h => h) hH (Or.inl ⟨by rfl, ?_⟩) ?_
    rotate_left
    · intro wq hq
      go_simp
      try rfl
    try simp only [Act.put, List.setIfInBounds_toArray, List.set_cons_zero, List.set_cons_succ]
    refine tkH (v := ?_) (i := 9) rfl (by kernel_rfl) (by kernel_rfl) (by kernel_rfl) (fun _ _ _ h => h) hH (Or.inl ⟨by rfl, ?_⟩) ?_
    rotate_left
    · intro wq hq
      go_simp
      try rfl
    try simp only [Act.put, List.setIfInBounds_toArray, List.set_cons_zero, List.set_cons_succ]
    refine tkH (v := ?_) (i := 10) rfl (by kernel_rfl) (by kernel_rfl) (by kernel_rfl) (fun _ _ _ h => h) hH (Or.inl ⟨by rfl, ?_⟩) ?_
    rotate_left
    · intro wq hq
      go_simp
      try rfl
    try simp only [Act.put, List.setIfInBounds_toArray, List.set_cons_zero, List.set_cons_succ]
    refine tkH (v := ?_) (i := 11) rfl (by kernel_rfl) (by kernel_rfl) (by kernel_rfl) (fun _ _ _ h => h) hH (Or.inl ⟨by rfl, ?_⟩) ?_
    rotate_left
    · intro wq hq
      go_simp
      try rfl
    try simp only [Act.put, List.setIfInBounds_toArray, List.set_cons_zero, List.set_cons_succ]
    refine tkH (v := ?_) (i := 12) rfl (by kernel_rfl) (by kernel_rfl) (by kernel_rfl) (fun _ _ _ h => h) hH (Or.inl ⟨by rfl, ?_⟩) ?_
    rotate_left
    · intro wq hq
      go_simp
      try rfl
    try simp only [Act.put, List.setIfInBounds_toArray, List.set_cons_zero, List.set_cons_succ]
    refine tkH (i := 13) rfl (by kernel_rfl) (by kernel_rfl) (by kernel_rfl) (fun _ _ _ h => h) hH (yld t34 (by rfl) rfl rfl T rT lT) ?_
    try simp only [Act.put, List.setIfInBounds_toArray, List.set_cons_zero, List.set_cons_succ]
    refine efH2 (i := 14) (j := 15) rfl rfl (by kernel_rfl) (by rfl) (by rfl) (fun KK hKK => ?_) (fun KK hKK => ?_)
    · refine wp_of_exec (exec_new z34 rfl x0) ?_
      have hleX := hH.size
      refine hKK.out _ _ (hH.alloc hH.size _) (fun hH => ?_)
      clear hKK KK
      try simp only [Act.put, List.setIfInBounds_toArray, List.set_cons_zero, List.set_cons_succ]
      have oX := Own.new x0 31 (vs (zs 33))
      generalize x0.alloc (Obj.cells (vs (zs 33)) 31) = v0 at *
      refine efH (i := 15) rfl (by kernel_rfl) (by rfl) (fun KK hKK => ?_)
      refine wp_of_exec (exec_new z34 rfl v0) ?_
      have hleY := hH.size
      refine hKK.out _ _ (hH.alloc hH.size _) (fun hH => ?_)
      clear hKK KK
      try simp only [Act.put, List.setIfInBounds_toArray, List.set_cons_zero, List.set_cons_succ]
      have hxy := oX.lt
      replace oX := oX.alloc (Obj.cells (vs (zs 33)) 31)
      have oY := Own.new v0 31 (vs (zs 33))
      generalize v0.alloc (Obj.cells (vs (zs 33)) 31) = v1 at *
      refine efH (i := 16) rfl (by kernel_rfl) (by rfl) (fun KK hKK => ?_)
      refine wp_store_row 31 _ _ rfl x0.heap.size (vs S) rfl rfl 31 (vs (zs 33)) oX (by rw [t34.siz, vs_size, lS]) (by rw [vs_size, vs_size, zs_length, lS]) (vs_one _) ?_
      refine hKK.out _ _ (below_row hH hleX _) (fun hH => ?_)
      clear hKK KK
      replace oX := oX.row (vs S)
      replace oY := oY.rowOther x0.heap.size (vs S) (by omega)
      generalize v1.setRow x0.heap.size (vs S) = v2 at *
      try simp only [Act.put, List.setIfInBounds_toArray, List.set_cons_zero, List.set_cons_succ]
      refine efH (i := 17) rfl (by kernel_rfl) (by rfl) (fun KK hKK => ?_)
      refine wp_store_row 31 _ _ rfl v0.heap.size (vs T) rfl rfl 31 (vs (zs 33)) oY (by rw [t34.siz, vs_size, lT]) (by rw [vs_size, vs_size, zs_length, lT]) (vs_one _) ?_
      refine hKK.out _ _ (below_row hH hleY _) (fun hH => ?_)
      clear hKK KK
      replace oY := oY.row (vs T)
      replace oX := oX.rowOther v0.heap.size (vs T) (by omega)
      generalize v2.setRow v0.heap.size (vs T) = v3 at *
      try simp only [Act.put, List.setIfInBounds_toArray, List.set_cons_zero, List.set_cons_succ]
      refine wpAnyH_done (by kernel_rfl) ?_ _
      try simp only [Act.put, List.getElem_toArray, List.getElem_cons_zero, List.getElem_cons_succ, List.setIfInBounds_toArray, List.set_cons_zero, List.set_cons_succ]
      replace bW := bW.trans (hH.mono (by have := bW.size; have := HG.out; omega))
      replace r1 := r1.below hH
      clear hH hleX hleY hxy
      generalize x0.heap.size = gX at oX ⊢
      generalize v0.heap.size = gY at oY ⊢
      exact rest gX gY v3 ⟨oX, oY, r1, bW⟩
    · refine wp_of_exec (exec_new z34 rfl x0) ?_
      have hleY := hH.size
      refine hKK.out _ _ (hH.alloc hH.size _) (fun hH => ?_)
      clear hKK KK
      try simp only [Act.put, List.setIfInBounds_toArray, List.set_cons_zero, List.set_cons_succ]
      have oY := Own.new x0 31 (vs (zs 33))
      generalize x0.alloc (Obj.cells (vs (zs 33)) 31) = v4 at *
      refine efH (i := 14) rfl (by kernel_rfl) (by rfl) (fun KK hKK => ?_)
      refine wp_of_exec (exec_new z34 rfl v4) ?_
      have hleX := hH.size
      refine hKK.out _ _ (hH.alloc hH.size _) (fun hH => ?_)
      clear hKK KK
      try simp only [Act.put, List.setIfInBounds_toArray, List.set_cons_zero, List.set_cons_succ]
      have hxy := oY.lt
      replace oY := oY.alloc (Obj.cells (vs (zs 33)) 31)
      have oX := Own.new v4 31 (vs (zs 33))
      generalize v4.alloc (Obj.cells (vs (zs 33)) 31) = v5 at *
      refine efH (i := 16) rfl (by kernel_rfl) (by rfl) (fun KK hKK => ?_)
      refine wp_store_row 31 _ _ rfl v4.heap.size (vs S) rfl rfl 31 (vs (zs 33)) oX (by rw [t34.siz, vs_size, lS]) (by rw [vs_size, vs_size, zs_length, lS]) (vs_one _) ?_
      refine hKK.out _ _ (below_row hH hleX _) (fun hH => ?_)
      clear hKK KK
      replace oX := oX.row (vs S)
      replace oY := oY.rowOther v4.heap.size (vs S) (by omega)
      generalize v5.setRow v4.heap.size (vs S) = v6 at *
      try simp only [Act.put, List.setIfInBounds_toArray, List.set_cons_zero, List.set_cons_succ]
      refine efH (i := 17) rfl (by kernel_rfl) (by rfl) (fun KK hKK => ?_)
      refine wp_store_row 31 _ _ rfl x0.heap.size (vs T) rfl rfl 31 (vs (zs 33)) oY (by rw [t34.siz, vs_size, lT]) (by rw [vs_size, vs_size, zs_length, lT]) (vs_one _) ?_
      refine hKK.out _ _ (below_row hH hleY _) (fun hH => ?_)
      clear hKK KK
      replace oY := oY.row (vs T)
      replace oX := oX.rowOther x0.heap.size (vs T) (by omega)
      generalize v6.setRow x0.heap.size (vs T) = v7 at *
      try simp only [Act.put, List.setIfInBounds_toArray, List.set_cons_zero, List.set_cons_succ]
      refine wpAnyH_done (by kernel_rfl) ?_ _
      try simp only [Act.put, List.getElem_toArray, List.getElem_cons_zero, List.getElem_cons_succ, List.setIfInBounds_toArray, List.set_cons_zero, List.set_cons_succ]
      replace bW := bW.trans (hH.mono (by have := bW.size; have := HG.out; omega))
      replace r1 := r1.below hH
      clear hH hleX hleY hxy
      generalize v4.heap.size = gX at oX ⊢
      generalize x0.heap.size = gY at oY ⊢
      exact rest gX gY v7 ⟨oX, oY, r1, bW⟩
  · rintro gX gY w5 ⟨oX, oY, r1, bW⟩
    clear v1 v2 wp1 wp2 an
    have bS : Gf.Bytes S := by rw [← HS.out.1]; exact Sx.shr_bytes HK.out.1 HM.out.1 (by omega)
    have bT : Gf.Bytes T := by rw [← HS.out.2]; exact Sx.shr_bytes HK.out.1 HM.out.1 (by omega)
    have nS : Gf.nth S 0 = q1 + 1 := by rw [← HS.out.1, Sx.shr_head]
    have nT : Gf.nth T 0 = q2 + 1 := by rw [← HS.out.2, Sx.shr_head]
    have cX := oX.cellb (i := 0) (by omega)
    have cY := oY.cellb (i := 0) (by omega)
    have HN := Lib.hid (And.intro nS nT)
    have bO := HO.out.1
    have lO := HO.out.2
    clear nS nT
    by_cases d12 : Gf.nth S 0 = Gf.nth T 0
    · have t12 := eqz _ _ d12
      clear d12
      go_wp2_with fail
      refine (splits_any _).mono ?_
      rintro e yc ⟨rfl, hz⟩
      replace bW := bW.trans (hz.mono (by have := bW.size; have := HG.out; omega))
      clear hz
      go_wp2_with fail
      go_ret
      exact ⟨rfl, by rw [HG.out]; exact bW⟩
    have t12 := eqz' _ _ d12
    have HD := Lib.hid d12
    clear d12
    go_wp2_with (refine alz z24 rfl rfl ?_)
    have oN := Own.new w5 24 (vs (zs 64))
    have k1 : Below w5.heap.size w5 (w5.alloc (Obj.cells (vs (zs 64)) 24)) := (Below.refl _ _).alloc (Nat.le_refl _) _
    have lX := oX.lt
    have lY := oY.lt
    have l1 : g + 1 < w5.heap.size := World.block_lt_of_cell? _ _ (r1.cell (i := 0) (by omega))
    replace oX := oX.below k1
    replace oY := oY.below k1
    replace r1 := r1.below k1
    have bG : g ≤ w5.heap.size := by have := bW.size; have := HG.out; omega
    replace bW := bW.trans (k1.mono bG)
    clear k1 cX cY
    generalize w5.alloc (Obj.cells (vs (zs 64)) 24) = w6 at *
    generalize w5.heap.size = gN at *
    go_loopw [64] (fun i wr => ∃ k : Nat, k ≤ 32 ∧ i = .int .i64 k ∧ Own wr gN 24 (vs (Sx.nz S T O k)) ∧ Below gN w6 wr) (fun i _ => 32 - (intOf i).toNat)
    case atStart => exact ⟨0, by omega, rfl, by rw [Sx.nz_zero]; exact oN, Below.refl _ _⟩
    case round =>
      obtain ⟨k, hk, rfl, oR, hb⟩ := hrel
      generalize wr = wo at *
      by_cases hlt : k < 32
      · have i0 : (k : Int) < 32 := by omega
        have pX := oX.belowB hb lX
        have pY := oY.belowB hb lY
        have cX := pX.cellb (i := 0) (by omega)
        have cY := pY.cellb (i := 0) (by omega)
        have dX := pX.cellb (i := 1 + k) (by omega)
        have dY := pY.cellb (i := 1 + k) (by omega)
        have cO := (rg_belowB r1 hb l1).cell (i := k) (by omega)
        rw [Nat.zero_add] at cO
        have fN := oR.frozen (32 + k)
        have gH := oR.cellb (i := 32 + k) (by rw [Sx.nz_length]; omega)
        have e1 : IntKind.i64.wrap (32 + (k : Int)) = 32 + (k : Int) := IntWalk.i64_in _ (by omega)
        have t32 : (32 + (k : Int)).toNat = 32 + k := by omega
        have b0 := bS.at_ 0
        have b1 := bT.at_ 0
        have b2 := bS.at_ (1 + k)
        have b3 := bT.at_ (1 + k)
        have b4 := bO.at_ k
        have X1 := xor8 (Gf.nth S (1 + k)) (Gf.nth O k) b2 b4
        have X2 := xor8 (Gf.nth T (1 + k)) (Gf.nth O k) b3 b4
        have X3 := xor8 (Gf.nth S 0) (Gf.nth T 0) b0 b1
        have l1' := Gf.xor_lt b2 b4
        have l2' := Gf.xor_lt b3 b4
        have l3' := Gf.xor_lt b0 b1
        have i1' := Gf.inv_lt _ b0
        have i2' := Gf.inv_lt _ b1
        have i3' := Gf.inv_lt _ l3'
        have p1 := Gf.mul_lt (Gf.nth S (1 + k) ^^^ Gf.nth O k) (Gf.inv (Gf.nth S 0)) l1'
        have p2 := Gf.mul_lt (Gf.nth T (1 + k) ^^^ Gf.nth O k) (Gf.inv (Gf.nth T 0)) l2'
        have X4 := xor8 _ _ p1 p2
        have p3 := Gf.xor_lt p1 p2
        go_wp2_with fail
        go_quiet (first | (go_at_call 8; exact quietS (inv_any _ _ (by omega))) | (go_at_call 7; exact quietS (mul_any _ _ _ (by omega) (by omega))))
        go_wp2_with fail
        revert nq
        intro na
        go_quiet (first | (go_at_call 8; exact quietA (inv_any _ _ (by omega))) | (go_at_call 7; exact quietA (mul_any _ _ _ (by omega) (by omega))))
        go_wp2_with (first | (go_at_call 8; refine (inv_any _ _ (by omega)).mono ?_; rintro e w' ⟨rfl, rfl⟩) | (go_at_call 7; refine (mul_any _ _ _ (by omega) (by omega)).mono ?_; rintro e w' ⟨rfl, rfl⟩))
        have oR' : Own (wo.drewN (na + nq)) gN 24 (vs (Sx.nz S T O k)) := oR
        have hb' : Below gN w6 (wo.drewN (na + nq)) := below_dr hb ⟨_, rfl⟩
        have pX' : Own (wo.drewN (na + nq)) gX 31 (vs S) := pX
        generalize hP : Gf.mul (Gf.nth S (1 + k) ^^^ Gf.nth O k) (Gf.inv (Gf.nth S 0)) = P at *
        generalize hQ : Gf.mul (Gf.nth T (1 + k) ^^^ Gf.nth O k) (Gf.inv (Gf.nth T 0)) = Q' at *
        generalize hh : Gf.mul (P ^^^ Q') (Gf.inv (Gf.nth S 0 ^^^ Gf.nth T 0)) = H at *
        have lH : H < 256 := by rw [← hh]; exact Gf.mul_lt _ _ p3
        have p4 := Gf.mul_lt H (Gf.nth S 0) lH
        have X5 := xor8 P (Gf.mul H (Gf.nth S 0)) p1 p4
        have eH : H = Sx.fh S T O k := by rw [← hh, ← hP, ← hQ]; rfl
        have eL : P ^^^ Gf.mul H (Gf.nth S 0) = Sx.fl S T O k := by rw [eH, ← hP]; rfl
        have oH := oR'.setb (32 + k) H
        have pX := pX'.other ⟨gN, 32 + k, none⟩ (.int .u8 (H : Int)) (Nat.ne_of_lt lX)
        have bH := hb'.setCell (p := ⟨gN, 32 + k, none⟩) (Nat.le_refl _) (.int .u8 (H : Int))
        generalize (wo.drewN (na + nq)).setCell ⟨gN, 32 + k, none⟩ (.int .u8 (H : Int)) = y at *
        have hcl : Gf.nth ((Sx.nz S T O k).set (32 + k) H) (32 + k) = H := by rw [Gf.nth_eq, List.getElem?_set_self (by rw [Sx.nz_length]; omega)]; rfl
        have cH := oH.cellb (i := 32 + k) (by rw [List.length_set, Sx.nz_length]; omega)
        rw [hcl] at cH
        have fK := oH.frozen k
        have gK := oH.cellb (i := k) (by rw [List.length_set, Sx.nz_length]; omega)
        have cX := pX.cellb (i := 0) (by omega)
        have HE := Lib.hid (And.intro eH eL)
        have i64 : (k : Int) < 64 := by omega
        have j64 : 32 + (k : Int) < 64 := by omega
        clear hP hQ hh oR' hb' pX' oR hb eH eL hcl X1 X2 X3 X4 cY dX dY cO fN gH
        go_region_with (go_at_call 7; refine (mul_any _ _ _ (by omega) (by omega)).mono ?_; rintro e w' ⟨rfl, rfl⟩)
        all_goals
          go_wp2_with fail
          go_roundw
          case rel => exact ⟨k + 1, by omega, by go_num, (by
            have h := oH.setb k (P ^^^ Gf.mul H (Gf.nth S 0))
            rw [HE.out.2, HE.out.1, Sx.nz_hi _ _ _ hlt, Sx.nz_lo _ _ _ hlt] at h
            rw [HE.out.2]
            exact h), ((below_dr bH ⟨_, rfl⟩).setCell (Nat.le_refl _) _)⟩
          case measure => first | (simp [intOf]; done) | (simp [intOf]; omega)
      · obtain rfl : k = 32 := by omega
        have bN := Sx.nz_bytes bS bT bO 32
        have lN := Sx.nz_length S T O 32
        obtain ⟨f1, f2⟩ := Sx.fits_two bS bT bO lS lT (by rw [HN.out.1]; omega) (by rw [HN.out.2]; omega) HD.out
        rw [HN.out.1] at f1
        rw [HN.out.2] at f2
        have hNs : (bs (Sx.nz S T O 32)).size = 64 := by rw [bs_size, lN]
        have hs2 := fun w => ssplit_ok O (bs (Sx.nz S T O 32)) a bO lO hNs la (by omega) w
        rw [toN_bs bN] at hs2
        generalize Sx.nz S T O 32 = N at *
        have rX := (oX.belowB hb lX).rg
        have rY := (oY.belowB hb lY).rg
        have rO := rg_belowB r1 hb l1
        have rN := oR.rg
        replace bW := bW.trans (hb.mono bG)
        clear hNs bN hb oR oX oY r1 oN hk hlt t12
        go_wp2_with fail
        replace rO := rO.drew
        replace rN := rN.drew
        replace rX := rX.drew
        replace rY := rY.drew
        replace bW := bW.drew
        refine wp_region_held_drew (S := fun w' => Below wo.drew.heap.size wo.drew w') (by kernel_rfl) (Below.refl _ _) (fun hH => ?_)
        generalize wo.drew = y2 at *
        refine tkH (i := 0) rfl (by kernel_rfl) (by kernel_rfl) (by kernel_rfl) (fun _ _ _ h => h) hH (yld t23 (by rfl) rfl rfl O rO lO) ?_
        try simp only [Act.put, List.setIfInBounds_toArray, List.set_cons_zero, List.set_cons_succ]
        refine tkH (v := ?_) (i := 1) rfl (by kernel_rfl) (by kernel_rfl) (by kernel_rfl) (fun _ _ _ h => h) hH (Or.inl ⟨by rfl, ?_⟩) ?_
        rotate_left
        · intro wq hq
          go_simp
          try rfl
        try simp only [Act.put, List.setIfInBounds_toArray, List.set_cons_zero, List.set_cons_succ]
        refine tkH (v := ?_) (i := 2) rfl (by kernel_rfl) (by kernel_rfl) (by kernel_rfl) (fun _ _ _ h => h) hH (Or.inl ⟨by rfl, ?_⟩) ?_
        rotate_left
        · intro wq hq
          go_simp
          try rfl
        try simp only [Act.put, List.setIfInBounds_toArray, List.set_cons_zero, List.set_cons_succ]
        refine tkH (v := ?_) (i := 3) rfl (by kernel_rfl) (by kernel_rfl) (by kernel_rfl) (fun _ _ _ h => h) hH (Or.inl ⟨by rfl, ?_⟩) ?_
        rotate_left
        · intro wq hq
          have hcv := conv_bs wq gN 0 N 64 64 lN (rN.below hq)
          go_simp
          try rfl
        try simp only [Act.put, List.setIfInBounds_toArray, List.set_cons_zero, List.set_cons_succ]
        refine efH (i := 4) rfl (by kernel_rfl) (by rfl) (fun KK hKK => ?_)
        go_simp
        refine (hs2 _).mono ?_
        rintro e w8 ⟨⟨A2, c2, rfl, s2, hc2⟩, hx⟩
        have hH' := hH.trans (hx.mono hH.size)
        go_wp2_with fail
        refine hKK.out _ _ hH' (fun hH => ?_)
        clear hKK KK hH'
        try simp only [Act.put, List.setIfInBounds_toArray, List.set_cons_zero, List.set_cons_succ]
        refine tkH (v := ?_) (i := 5) rfl (by kernel_rfl) (by kernel_rfl) (by kernel_rfl) (fun _ _ _ h => h) hH (Or.inl ⟨by rfl, ?_⟩) ?_
        rotate_left
        · intro wq hq
          go_simp
          try rfl
        try simp only [Act.put, List.setIfInBounds_toArray, List.set_cons_zero, List.set_cons_succ]
        refine tkH (v := ?_) (i := 6) rfl (by kernel_rfl) (by kernel_rfl) (by kernel_rfl) (fun _ _ _ h => h) hH (Or.inl ⟨by rfl, ?_⟩) ?_
        rotate_left
        · intro wq hq
          go_simp
          try rfl
        try simp only [Act.put, List.setIfInBounds_toArray, List.set_cons_zero, List.set_cons_succ]
        refine tkH (v := ?_) (i := 7) rfl (by kernel_rfl) (by kernel_rfl) (by kernel_rfl) (fun _ _ _ h => h) hH (Or.inl ⟨by rfl, ?_⟩) ?_
        rotate_left
        · intro wq hq
          go_simp
          try rfl
        try simp only [Act.put, List.setIfInBounds_toArray, List.set_cons_zero, List.set_cons_succ]
        refine tkH (v := ?_) (i := 8) rfl (by kernel_rfl) (by kernel_rfl) (by kernel_rfl) (fun _ _ _ h => h) hH (Or.inl ⟨by rfl, ?_⟩) ?_
        rotate_left
        · intro wq hq
          go_simp
          try rfl
        try simp only [Act.put, List.setIfInBounds_toArray, List.set_cons_zero, List.set_cons_succ]
        refine tkH (v := ?_) (i := 9) rfl (by kernel_rfl) (by kernel_rfl) (by kernel_rfl) (fun _ _ _ h => h) hH (Or.inl ⟨by rfl, ?_⟩) ?_
        rotate_left
        · intro wq hq
          go_simp
          try rfl
        try simp only [Act.put, List.setIfInBounds_toArray, List.set_cons_zero, List.set_cons_succ]
        refine wpAnyH_done (by kernel_rfl) ?_ _
        try simp only [Act.put, List.getElem_toArray, List.getElem_cons_zero, List.getElem_cons_succ, List.setIfInBounds_toArray, List.set_cons_zero, List.set_cons_succ]
        replace bW := bW.trans (hH.mono (by have := bW.size; have := HG.out; omega))
        replace rX := rX.below hH
        replace rY := rY.below hH
        clear hs2 hx hH rO rN
        obtain ⟨b2, o2, rfl, hsh⟩ := share_at s2 ap
        clear s2
        have pX := hsh q1 m1
        have pY := hsh q2 m2
        rw [f1] at pX
        rw [f2] at pY
        clear hsh f1 f2
        obtain ⟨v1, v2, wp1, wp2⟩ := HV.out
        have an : ¬ a = 0 := by omega
        have i1 : (q1 : Int) < (a : Int) := by omega
        have i2 : (q2 : Int) < (a : Int) := by omega
        go_wp2_with fail
        replace rX := rX.drew
        replace rY := rY.drew
        replace pX := pX.drew
        replace pY := pY.drew
        replace bW := bW.drew
        refine wp_region_held_drew (S := fun w' => Below w8.drew.heap.size w8.drew w') (by kernel_rfl) (Below.refl _ _) (fun hH => ?_)
        generalize w8.drew = y3 at *
        refine tkH (v := ?_) (i := 0) rfl (by kernel_rfl) (by kernel_rfl) (by kernel_rfl) (fun _ _ _ h => h) hH (Or.inl ⟨by rfl, ?_⟩) ?_
        rotate_left
        · intro wq hq
          go_simp
          try rfl
        try simp only [Act.put, List.setIfInBounds_toArray, List.set_cons_zero, List.set_cons_succ]
        refine tkH (v := ?_) (i := 1) rfl (by kernel_rfl) (by kernel_rfl) (by kernel_rfl) (fun _ _ _ h => h) hH (Or.inl ⟨by rfl, ?_⟩) ?_
        rotate_left
        · intro wq hq
          go_simp
          try rfl
        try simp only [Act.put, List.setIfInBounds_toArray, List.set_cons_zero, List.set_cons_succ]
        refine tkH (v := ?_) (i := 2) rfl (by kernel_rfl) (by kernel_rfl) (by kernel_rfl) (fun _ _ _ h => h) hH (Or.inl ⟨by rfl, ?_⟩) ?_
        rotate_left
        · intro wq hq
          go_simp
          try rfl
        try simp only [Act.put, List.setIfInBounds_toArray, List.set_cons_zero, List.set_cons_succ]
        refine tkH (v := ?_) (i := 3) rfl (by kernel_rfl) (by kernel_rfl) (by kernel_rfl) (fun _ _ _ h => h) hH (Or.inl ⟨by rfl, ?_⟩) ?_
        rotate_left
        · intro wq hq
          go_simp
          try rfl
        try simp only [Act.put, List.setIfInBounds_toArray, List.set_cons_zero, List.set_cons_succ]
        refine tkH (v := ?_) (i := 4) rfl (by kernel_rfl) (by kernel_rfl) (by kernel_rfl) (fun _ _ _ h => h) hH (Or.inl ⟨by rfl, ?_⟩) ?_
        rotate_left
        · intro wq hq
          go_simp
          try rfl
        try simp only [Act.put, List.setIfInBounds_toArray, List.set_cons_zero, List.set_cons_succ]
        refine tkH (v := ?_) (i := 5) rfl (by kernel_rfl) (by kernel_rfl) (by kernel_rfl) (fun _ _ _ h => h) hH (Or.inl ⟨by rfl, ?_⟩) ?_
        rotate_left
        · intro wq hq
          go_simp
          try rfl
        try simp only [Act.put, List.setIfInBounds_toArray, List.set_cons_zero, List.set_cons_succ]
        refine tkH (v := ?_) (i := 6) rfl (by kernel_rfl) (by kernel_rfl) (by kernel_rfl) (fun _ _ _ h => h) hH (Or.inl ⟨by rfl, ?_⟩) ?_
        rotate_left
        · intro wq hq
          go_simp
          try rfl
        try simp only [Act.put, List.setIfInBounds_toArray, List.set_cons_zero, List.set_cons_succ]
        refine tkH (v := ?_) (i := 7) rfl (by kernel_rfl) (by kernel_rfl) (by kernel_rfl) (fun _ _ _ h => h) hH (Or.inl ⟨by rfl, ?_⟩) ?_
        rotate_left
        · intro wq hq
          go_simp
          try rfl
        try simp only [Act.put, List.setIfInBounds_toArray, List.set_cons_zero, List.set_cons_succ]
        refine tkH (v := ?_) (i := 8) rfl (by kernel_rfl) (by kernel_rfl) (by kernel_rfl) (fun _ _ _ h => h) hH (Or.inl ⟨by rfl, ?_⟩) ?_
        rotate_left
        · intro wq hq
          go_simp
          try rfl
        try simp only [Act.put, List.setIfInBounds_toArray, List.set_cons_zero, List.set_cons_succ]
        refine tkH (v := ?_) (i := 9) rfl (by kernel_rfl) (by kernel_rfl) (by kernel_rfl) (fun _ _ _ h => h) hH (Or.inl ⟨by rfl, ?_⟩) ?_
        rotate_left
        · intro wq hq
          go_simp
          try rfl
        try simp only [Act.put, List.setIfInBounds_toArray, List.set_cons_zero, List.set_cons_succ]
        refine tkH (v := ?_) (i := 10) rfl (by kernel_rfl) (by kernel_rfl) (by kernel_rfl) (fun _ _ _ h => h) hH (Or.inl ⟨by rfl, ?_⟩) ?_
        rotate_left
        · intro wq hq
          go_simp
          try rfl
        try simp only [Act.put, List.setIfInBounds_toArray, List.set_cons_zero, List.set_cons_succ]
        refine tkH (v := ?_) (i := 11) rfl (by kernel_rfl) (by kernel_rfl) (by kernel_rfl) (fun _ _ _ h => h) hH (Or.inl ⟨by rfl, ?_⟩) ?_
        rotate_left
        · intro wq hq
          go_simp
          try rfl
        try simp only [Act.put, List.setIfInBounds_toArray, List.set_cons_zero, List.set_cons_succ]
        refine tkH (v := ?_) (i := 12) rfl (by kernel_rfl) (by kernel_rfl) (by kernel_rfl) (fun _ _ _ h => h) hH (Or.inl ⟨by rfl, ?_⟩) ?_
        rotate_left
        · intro wq hq
          go_simp
          try rfl
        try simp only [Act.put, List.setIfInBounds_toArray, List.set_cons_zero, List.set_cons_succ]
        refine tkH (v := ?_) (i := 13) rfl (by kernel_rfl) (by kernel_rfl) (by kernel_rfl) (fun _ _ _ h => h) hH (Or.inl ⟨by rfl, ?_⟩) ?_
        rotate_left
        · intro wq hq
          go_simp
          try rfl
        try simp only [Act.put, List.setIfInBounds_toArray, List.set_cons_zero, List.set_cons_succ]
        refine tkH (v := ?_) (i := 14) rfl (by kernel_rfl) (by kernel_rfl) (by kernel_rfl) (fun _ _ _ h => h) hH (Or.inl ⟨by rfl, ?_⟩) ?_
        rotate_left
        · intro wq hq
          go_simp
          try rfl
        try simp only [Act.put, List.setIfInBounds_toArray, List.set_cons_zero, List.set_cons_succ]
        refine tkH (i := 15) rfl (by kernel_rfl) (by kernel_rfl) (by kernel_rfl) (fun _ _ _ h => h) hH (yld t34 (by rfl) rfl rfl S pX lS) ?_
        try simp only [Act.put, List.setIfInBounds_toArray, List.set_cons_zero, List.set_cons_succ]
        refine tkH (i := 16) rfl (by kernel_rfl) (by kernel_rfl) (by kernel_rfl) (fun _ _ _ h => h) hH (yld t34 (by rfl) rfl rfl S rX lS) ?_
        try simp only [Act.put, List.setIfInBounds_toArray, List.set_cons_zero, List.set_cons_succ]
        refine tkH (i := 17) rfl (by kernel_rfl) (by kernel_rfl) (by kernel_rfl) (fun _ _ _ h => h) hH ((ycmp_same cmp34 S (by rfl) rfl rfl rfl lS bS).yieldsIf) ?_
        try simp only [Act.put, List.setIfInBounds_toArray, List.set_cons_zero, List.set_cons_succ]
        refine tkH (v := ?_) (i := 18) rfl (by kernel_rfl) (by kernel_rfl) (by kernel_rfl) (fun _ _ _ h => h) hH (Or.inl ⟨by rfl, ?_⟩) ?_
        rotate_left
        · intro wq hq
          go_simp
          try rfl
        try simp only [Act.put, List.setIfInBounds_toArray, List.set_cons_zero, List.set_cons_succ]
        refine tkH (v := ?_) (i := 19) rfl (by kernel_rfl) (by kernel_rfl) (by kernel_rfl) (fun _ _ _ h => h) hH (Or.inl ⟨by rfl, ?_⟩) ?_
        rotate_left
        · intro wq hq
          go_simp
          try rfl
        try simp only [Act.put, List.setIfInBounds_toArray, List.set_cons_zero, List.set_cons_succ]
        refine tkH (v := ?_) (i := 20) rfl (by kernel_rfl) (by kernel_rfl) (by kernel_rfl) (fun _ _ _ h => h) hH (Or.inl ⟨by rfl, ?_⟩) ?_
        rotate_left
        · intro wq hq
          go_simp
          try rfl
        try simp only [Act.put, List.setIfInBounds_toArray, List.set_cons_zero, List.set_cons_succ]
        refine tkH (v := ?_) (i := 21) rfl (by kernel_rfl) (by kernel_rfl) (by kernel_rfl) (fun _ _ _ h => h) hH (Or.inl ⟨by rfl, ?_⟩) ?_
        rotate_left
        · intro wq hq
          go_simp
          try rfl
        try simp only [Act.put, List.setIfInBounds_toArray, List.set_cons_zero, List.set_cons_succ]
        refine tkH (v := ?_) (i := 22) rfl (by kernel_rfl) (by kernel_rfl) (by kernel_rfl) (fun _ _ _ h => h) hH (Or.inl ⟨by rfl, ?_⟩) ?_
        rotate_left
        · intro wq hq
          go_simp
          try rfl
        try simp only [Act.put, List.setIfInBounds_toArray, List.set_cons_zero, List.set_cons_succ]
        refine tkH (v := ?_) (i := 23) rfl (by kernel_rfl) (by kernel_rfl) (by kernel_rfl) (fun _ _ _ h => h) hH (Or.inl ⟨by rfl, ?_⟩) ?_
        rotate_left
        · intro wq hq
          go_simp
          try rfl
        try simp only [Act.put, List.setIfInBounds_toArray, List.set_cons_zero, List.set_cons_succ]
        refine tkH (v := ?_) (i := 24) rfl (by kernel_rfl) (by kernel_rfl) (by kernel_rfl) (fun _ _ _ h => h) hH (Or.inl ⟨by rfl, ?_⟩) ?_
        rotate_left
        · intro wq hq
          go_simp
          try rfl
        try simp only [Act.put, List.setIfInBounds_toArray, List.set_cons_zero, List.set_cons_succ]
        refine tkH (v := ?_) (i := 25) rfl (by kernel_rfl) (by kernel_rfl) (by kernel_rfl) (fun _ _ _ h => h) hH (Or.inl ⟨by rfl, ?_⟩) ?_
        rotate_left
        · intro wq hq
          go_simp
          try rfl
        try simp only [Act.put, List.setIfInBounds_toArray, List.set_cons_zero, List.set_cons_succ]
        refine tkH (i := 26) rfl (by kernel_rfl) (by kernel_rfl) (by kernel_rfl) (fun _ _ _ h => h) hH (yld t34 (by rfl) rfl rfl T pY lT) ?_
        try simp only [Act.put, List.setIfInBounds_toArray, List.set_cons_zero, List.set_cons_succ]
        refine tkH (i := 27) rfl (by kernel_rfl) (by kernel_rfl) (by kernel_rfl) (fun _ _ _ h => h) hH (yld t34 (by rfl) rfl rfl T rY lT) ?_
        try simp only [Act.put, List.setIfInBounds_toArray, List.set_cons_zero, List.set_cons_succ]
        refine tkH (i := 28) rfl (by kernel_rfl) (by kernel_rfl) (by kernel_rfl) (fun _ _ _ h => h) hH ((ycmp_same cmp34 T (by rfl) rfl rfl rfl lT bT).yieldsIf) ?_
        try simp only [Act.put, List.setIfInBounds_toArray, List.set_cons_zero, List.set_cons_succ]
        refine tkH (v := ?_) (i := 29) rfl (by kernel_rfl) (by kernel_rfl) (by kernel_rfl) (fun _ _ _ h => h) hH (Or.inl ⟨by rfl, ?_⟩) ?_
        rotate_left
        · intro wq hq
          go_simp
          try rfl
        try simp only [Act.put, List.setIfInBounds_toArray, List.set_cons_zero, List.set_cons_succ]
        refine tkH (v := ?_) (i := 30) rfl (by kernel_rfl) (by kernel_rfl) (by kernel_rfl) (fun _ _ _ h => h) hH (Or.inl ⟨by rfl, ?_⟩) ?_
        rotate_left
        · intro wq hq
          go_simp
          try rfl
        try simp only [Act.put, List.setIfInBounds_toArray, List.set_cons_zero, List.set_cons_succ]
        refine efH (i := 31) rfl (by kernel_rfl) (by rfl) (fun KK hKK => ?_)
        go_simp
        refine (splits_any _).mono ?_
        rintro e w9 ⟨rfl, hz⟩
        have hH' := hH.trans (hz.mono hH.size)
        go_wp2_with fail
        refine hKK.out _ _ hH' (fun hH => ?_)
        clear hKK KK hH'
        try simp only [Act.put, List.setIfInBounds_toArray, List.set_cons_zero, List.set_cons_succ]
        refine tkH (v := ?_) (i := 32) rfl (by kernel_rfl) (by kernel_rfl) (by kernel_rfl) (fun _ _ _ h => h) hH (Or.inl ⟨by rfl, ?_⟩) ?_
        rotate_left
        · intro wq hq
          go_simp
          try rfl
        try simp only [Act.put, List.setIfInBounds_toArray, List.set_cons_zero, List.set_cons_succ]
        refine tkH (v := ?_) (i := 33) rfl (by kernel_rfl) (by kernel_rfl) (by kernel_rfl) (fun _ _ _ h => h) hH (Or.inl ⟨by rfl, ?_⟩) ?_
        rotate_left
        · intro wq hq
          go_simp
          try rfl
        try simp only [Act.put, List.setIfInBounds_toArray, List.set_cons_zero, List.set_cons_succ]
        refine wpAnyH_done (by kernel_rfl) ?_ _
        try simp only [Act.put, List.getElem_toArray, List.getElem_cons_zero, List.getElem_cons_succ, List.setIfInBounds_toArray, List.set_cons_zero, List.set_cons_succ]
        replace bW := bW.trans (hH.mono (by have := bW.size; have := HG.out; omega))
        clear hH hz rX rY pX pY
        go_wp2_with fail
        go_ret
        exact ⟨rfl, by rw [HG.out]; exact bW⟩
theorem walk (K O M : List Nat) (n a1 a2 : Nat) (hK : Gf.Bytes K) (lK : K.length = 32) (hO : Gf.Bytes O) (lO : O.length = 32) (hM : Gf.Bytes M) (lM : M.length = 64) (hn : n < 256) (ha1 : a1 < 256) (ha2 : a2 < 256) (W : World) :
    Calls Try.prog 3 #[.agg (vs K), .agg (vs O), .agg (vs M), .int .u8 (n : Int), .int .u8 (a1 : Int), .int .u8 (a2 : Int)] W fun e w' => e = .returned (.bool true) ∧ Below W.heap.size W w' :=
  walks K O M n a1 a2 hK lK hO lO hM lM hn ha1 ha2 W _ _ _ rfl rfl rfl

set_option maxRecDepth 100000 in
theorem lifted (os : Os) (started : os.Started) (H : Type) (enc : TypeId × Value → H) :
    ReturnsInHanded {} Try.checked os 3 .any (Rows.topTwoFitSpec.pre6 enc Try.prog Try.f3 Rows.topTwoFitRow.domain false) (Rows.topTwoFitSpec.post enc Try.prog Try.f3 false true false false) := by
  refine returnsInHanded_of_change (C := Try.checked) own started (by kernel_rfl) Try.func3
    (ChangeSpec.witness6 (enc := enc) (C := Try.checked) false ⟨#[], #[.agg (Array.replicate 32 (.int .u8 0)), .agg (Array.replicate 32 (.int .u8 0)), .agg (Array.replicate 64 (.int .u8 0)), .int .u8 0, .int .u8 0, .int .u8 0], []⟩ 8 (by kernel_rfl) (by kernel_rfl) (by kernel_rfl) (by kernel_rfl)) ?_
  intro W base args ds gs before hval0 hW hcnd _
  have hval : ∀ (j : Nat) t v, Try.f3.params[j]? = some t → args[j]? = some v → Value.okWide Try.prog W .any base t v := hval0
  have hW' := hW
  obtain ⟨p, q, hA0, hV, rfl, hfz, hnd⟩ := hW
  have hA : DataW.TrodAll enc Try.prog W 0 (fun _ => true) true Try.f3.params.toList args.toList ds p := hA0
  rw [Try.params3] at hA hval
  obtain ⟨v0, vs0, d0, ds0, p0, q0, hargs, rfl, rfl, h0, r0⟩ := trodAll_cons hA
  obtain ⟨v1, vs1, d1, ds1, p1, q1, rfl, rfl, rfl, h1, r1⟩ := trodAll_cons r0
  obtain ⟨v2, vs2, d2, ds2, p2, q2, rfl, rfl, rfl, h2, r2⟩ := trodAll_cons r1
  obtain ⟨v3, vs3, d3, ds3, p3, q3, rfl, rfl, rfl, h3, r3⟩ := trodAll_cons r2
  obtain ⟨v4, vs4, d4, ds4, p4, q4, rfl, rfl, rfl, h4, r4⟩ := trodAll_cons r3
  obtain ⟨v5, vs5, d5, ds5, p5, q5, rfl, rfl, rfl, h5, r5⟩ := trodAll_cons r4
  obtain ⟨rfl, rfl, rfl⟩ := trodAll_nil r5
  obtain rfl : args = #[v0, v1, v2, v3, v4, v5] := by cases args; simp_all
  obtain ⟨rfl, rfl⟩ := trodVars_none hV
  obtain ⟨K0, rfl, l0, b0⟩ := okKey (hval 0 23 v0 rfl rfl)
  have k0 := h0
  have lt0 : ∀ x ∈ p0, x.block < W.heap.size := by obtain ⟨m, hm⟩ := k0; exact DataW.trod_lt m _ _ _ hm
  obtain ⟨K1, rfl, l1, b1⟩ := okKey (hval 1 23 v1 rfl rfl)
  have k1 := h1
  have lt1 : ∀ x ∈ p1, x.block < W.heap.size := by obtain ⟨m, hm⟩ := k1; exact DataW.trod_lt m _ _ _ hm
  obtain ⟨K2, rfl, l2, b2⟩ := okNoise (hval 2 24 v2 rfl rfl)
  have k2 := h2
  have lt2 : ∀ x ∈ p2, x.block < W.heap.size := by obtain ⟨m, hm⟩ := k2; exact DataW.trod_lt m _ _ _ hm
  obtain ⟨n3, rfl, rfl, rfl, w3⟩ := open_int Try.underlying5 (hval 3 5 v3 rfl rfl) h3
  obtain ⟨m3, rfl, z3⟩ := nat_u8 w3
  obtain ⟨n4, rfl, rfl, rfl, w4⟩ := open_int Try.underlying5 (hval 4 5 v4 rfl rfl) h4
  obtain ⟨m4, rfl, z4⟩ := nat_u8 w4
  obtain ⟨n5, rfl, rfl, rfl, w5⟩ := open_int Try.underlying5 (hval 5 5 v5 rfl rfl) h5
  obtain ⟨m5, rfl, z5⟩ := nat_u8 w5
  clear hA0 hval0
  refine (walk K0 K1 K2 m3 m4 m5 b0 l0 b1 l1 b2 l2 z3 z4 z5 W).mono fun e W' ⟨he, bel⟩ => ?_
  subst he
  exact ⟨_, rfl, _, _, _, [], _, [], hW', trodAll_mk1 (shut_bool Try.underlying4 _), (trodAll_cons_mk (Below.trod laidOut (by kernel_rfl) (of_decide_eq_true (by kernel_rfl)) k0 bel lt0) (trodAll_cons_mk (Below.trod laidOut (by kernel_rfl) (of_decide_eq_true (by kernel_rfl)) k1 bel lt1) (trodAll_cons_mk (Below.trod laidOut (by kernel_rfl) (of_decide_eq_true (by kernel_rfl)) k2 bel lt2) (trodAll_cons_mk (shut_int Try.underlying5 w3) (trodAll_cons_mk (shut_int Try.underlying5 w4) (trodAll_cons_mk (shut_int Try.underlying5 w5) trodAll_mk0)))))), rfl, bel.frame _, fun h => by cases h⟩

theorem over : Rows.topTwoFitRow.holds Try.pinned (OpenSpec.ofChange Rows.topTwoFitSpec) :=
  OpenClaim.holds_of_wide 3 Try.f3 rfl rfl rfl rfl rfl rfl rfl ⟨rfl, rfl, rfl, rfl, rfl⟩ rfl rfl rfl rfl rfl (by kernel_rfl) Try.func3 (by kernel_rfl)
    (of_decide_eq_true (by kernel_rfl)) (by unfold Func.isWrapper; first | (rw [if_pos (by decide +kernel)]; kernel_rfl) | (rw [if_neg (by decide +kernel)]; exact ⟨rfl, rfl⟩))
    (fun os started H enc _ => lifted os started H enc)

/-- the statement -/
theorem proved : Rows.TopTwoFitSaid := over
end Go.Proofs.Ytkilphanbookkaa.topTwoFit
