/-
  For every two secrets, noise and two numbers ShareFits answers true: another secret has, by another noise, just the same two shares; the arguments read as before.
-/
import Derived.Test.YtmnenjgipkopdaaRows
import Derived.Test.YtmnenjgipkopdaaOk
import Derived.WalkKit
import Derived.ProofKit
import Derived.OpenShut
import Derived.ShutString
import Derived.Test.YtmnenjgipkopdaaJc
namespace Go.Proofs.Ytmnenjgipkopdaa.shareFits
open Go.ChangeShapes Go.WideShapes Go.ChangeAt Go.RowKit
open Go.ChangeMaps (open_string shut_string)
set_option linter.unusedVariables false
set_option linter.unusedSimpArgs false

theorem own : ownKnob Try.prog.godebug = none := by kernel_rfl
theorem zs_bytes (n : Nat) : Gf.Bytes (zs n) := fun x hx => by have := List.eq_of_mem_replicate hx; omega
theorem jis_no {S T U : List Nat} {E : Ending} (h : Sx.ok3 (Gf.nth S 0) (Gf.nth T 0) (Gf.nth U 0) = false) (hj : JIs S T U E) : E = .returned (.tuple #[.agg (vs (zs 32)), .int .i64 1]) := by unfold JIs at hj; rw [if_neg (by rw [h]; simp)] at hj; exact hj
theorem jis_yes {S T U : List Nat} {E : Ending} (h : Sx.ok3 (Gf.nth S 0) (Gf.nth T 0) (Gf.nth U 0) = true) (hj : JIs S T U E) : E = .returned (.tuple #[.agg (vs (Sx.at3 S T U 0)), .int .i64 0]) := by unfold JIs at hj; rw [if_pos h] at hj; exact hj
theorem ldw {ty : TypeId} {n : Nat} (T : AggT ty n) {ops : Array Oper} {rest : List Oper} {o : Oper} {a : Act} {w : World} {Q : Exit → Act → World → Prop} {x : Operand} {b f : Nat} {l : List Nat}
    (hgd : Region.wanted o (yielded ops a.tmps) = true) (ho : o.op = .load ty x) (hx : a.eval x = .pointer (some ⟨b, f, none⟩)) (hg : Rg w b f l) (hl : l.length = n)
    (h : wpList Try.prog ops Q rest (a.put o.dst (.agg (vs l))) w) : wpList Try.prog ops Q (o :: rest) a w := by
  show (if Region.wanted o (yielded ops a.tmps) then o.wp Try.prog a w (wpList Try.prog ops Q rest) Q ∨ (o.asks Try.prog a w ∧ LetsOut Q) else wpList Try.prog ops Q rest (a.put o.dst undef) w)
  rw [if_pos hgd]
  refine .inl ?_
  unfold Oper.wp
  rw [exec_ld T ho hx hg hl]
  exact h
theorem bldw {ops : Array Oper} {rest : List Oper} {o : Oper} {a : Act} {w : World} {Q : Exit → Act → World → Prop} (hgd : Region.wanted o (yielded ops a.tmps) = true) (ho : o.op = .build 23 #[])
    (h : wpList Try.prog ops Q rest (a.put o.dst (.agg (vs (zs 32)))) w) : wpList Try.prog ops Q (o :: rest) a w := by
  show (if Region.wanted o (yielded ops a.tmps) then o.wp Try.prog a w (wpList Try.prog ops Q rest) Q ∨ (o.asks Try.prog a w ∧ LetsOut Q) else wpList Try.prog ops Q rest (a.put o.dst undef) w)
  rw [if_pos hgd]
  refine .inl ?_
  have hb : Try.prog.built 23 [] = some (vs (zs 32)) := by kernel_rfl
  have e : ((#[] : Array (Nat × Operand)).map fun (i, x) => (i, a.eval x)).toList = [] := by simp
  refine wp_build 23 _ ho (by rw [e, hb]; rfl) ?_
  rw [e, hb]
  exact h
theorem nthL_shrs (K M : List Nat) (n i : Nat) (h : i < n) : nthL (Sx.shrs K M n) i = Sx.shr K M (i + 1) := by unfold nthL; rw [Sx.shrs_get _ _ _ _ h]; rfl
theorem share_at {w : World} {A : Option Addr} {K M : List Nat} {a : Nat} (h : Ss w A a (Sx.shrs K M a)) (ha : 0 < a) : ∃ b o, A = some ⟨b, o, none⟩ ∧ ∀ q, q < a → Rg w b (o + q * 33) (Sx.shr K M (q + 1)) := by
  obtain ⟨b, o, rfl, hr⟩ := h.2.2 ha
  exact ⟨b, o, rfl, fun q hq => by
    have := rg_at (n := a) (shrs_33 K M a) hr (i := q) (by rw [Sx.shrs_length]; exact hq)
    rw [nthL_shrs _ _ _ _ hq] at this
    exact this⟩
theorem eqz (p q : Nat) (h : p = q) : (((p : Nat) : Int) == ((q : Nat) : Int)) = true := by simp [h]
theorem eqz' (p q : Nat) (h : p ≠ q) : (((p : Nat) : Int) == ((q : Nat) : Int)) = false := by rw [beq_eq_false_iff_ne]; omega
def th (a b : Nat) : Nat → Nat
  | 0 => 0
  | j + 1 => if j ≠ a ∧ j ≠ b then j else th a b j
theorem th_end : ∀ a, a < 5 → ∀ b, b < 5 → th a b 5 < 5 ∧ th a b 5 ≠ a ∧ th a b 5 ≠ b := by decide
theorem th_le (a b : Nat) : ∀ j, th a b j ≤ j
  | 0 => Nat.le_refl _
  | j + 1 => by
    unfold th
    split
    · omega
    · have := th_le a b j; omega
def rowF (p q : Nat → Nat) (j : Nat) : List Nat := (List.range 64).map fun x => if x % 32 < j then (if x < 32 then p x else q (x - 32)) else 0
theorem rowF_length (p q : Nat → Nat) (j : Nat) : (rowF p q j).length = 64 := by simp [rowF]
theorem rowF_zero (p q : Nat → Nat) : rowF p q 0 = zs 64 := by
  apply List.ext_getElem?
  intro i
  by_cases hi : i < 64
  · unfold zs
    rw [List.getElem?_replicate, if_pos hi]
    simp only [rowF, List.getElem?_map, List.getElem?_range hi, Option.map_some, Nat.not_lt_zero, if_false]
  · rw [List.getElem?_eq_none (by rw [rowF_length]; omega), List.getElem?_eq_none (by rw [zs_length]; omega)]
theorem rowF_set (p q : Nat → Nat) (j : Nat) (hj : j < 32) : ((rowF p q j).set j (p j)).set (32 + j) (q j) = rowF p q (j + 1) := by
  apply List.ext_getElem?
  intro i
  rw [List.getElem?_set, List.getElem?_set, List.length_set, rowF_length]
  by_cases hi : i < 64
  · simp only [rowF, List.getElem?_map, List.getElem?_range hi, Option.map_some]
    by_cases h1 : 32 + j = i
    · subst h1
      rw [if_pos rfl, if_pos hi, if_pos (show (32 + j) % 32 < j + 1 by omega), if_neg (show ¬ 32 + j < 32 by omega), Nat.add_sub_cancel_left]
    · rw [if_neg h1]
      by_cases h2 : j = i
      · subst h2
        rw [if_pos rfl, if_pos hi, if_pos (show j % 32 < j + 1 by omega), if_pos hj]
      · rw [if_neg h2]
        by_cases h3 : i % 32 < j
        · rw [if_pos h3, if_pos (show i % 32 < j + 1 by omega)]
        · rw [if_neg h3, if_neg (show ¬ i % 32 < j + 1 by omega)]
  · rw [if_neg (by omega), if_neg (by omega), List.getElem?_eq_none (by rw [rowF_length]; omega), List.getElem?_eq_none (by rw [rowF_length]; omega)]
theorem rowF_lo (p q : Nat → Nat) {i : Nat} (hi : i < 32) : Gf.nth (rowF p q 32) i = p i := by
  rw [Gf.nth_eq]
  unfold rowF
  rw [List.getElem?_map, List.getElem?_range (show i < 64 by omega), Option.map_some, Option.getD_some, if_pos (show i % 32 < 32 by omega), if_pos hi]
theorem rowF_hi (p q : Nat → Nat) {i : Nat} (hi : i < 32) : Gf.nth (rowF p q 32) (32 + i) = q i := by
  rw [Gf.nth_eq]
  unfold rowF
  rw [List.getElem?_map, List.getElem?_range (show 32 + i < 64 by omega), Option.map_some, Option.getD_some, if_pos (show (32 + i) % 32 < 32 by omega), if_neg (show ¬ 32 + i < 32 by omega), Nat.add_sub_cancel_left]
theorem rowF_bytes {p q : Nat → Nat} (hp : ∀ i, p i < 256) (hq : ∀ i, q i < 256) (j : Nat) : Gf.Bytes (rowF p q j) := fun y hy => by
  obtain ⟨i, _, rfl⟩ := List.mem_map.1 hy
  split
  · split
    · exact hp _
    · exact hq _
  · omega
theorem coef_lt {A B C S : List Nat} (bA : Gf.Bytes A) (bB : Gf.Bytes B) (bC : Gf.Bytes C) (bS : Gf.Bytes S) (i : Nat) : (Sx.coef A B C S i).1 < 256 ∧ (Sx.coef A B C S i).2 < 256 := by
  have l1 := Sx.tell_lt bA bB bC 1 i (by omega)
  have l2 := Sx.tell_lt bA bB bC 2 i (by omega)
  have hm : ∀ x, x < 256 → ∀ y, Gf.mul x y < 256 := fun x hx y => Gf.mul_lt x y hx
  have c1 := Gf.xor_lt l1 (bS.at_ i)
  have c2 := hm _ (Gf.xor_lt l2 (bS.at_ i)) (Gf.inv 2)
  have c3 := hm _ (Gf.xor_lt c1 c2) (Gf.inv 3)
  exact ⟨Gf.xor_lt c1 c3, c3⟩
theorem lit3_rg {w : World} {g : Nat} {t : TypeId} {S T U : List Nat} (lS : S.length = 33) (lT : T.length = 33) (lU : U.length = 33) (h : Own w g t (vs [S, T, U].flatten)) : Rg w g 0 S ∧ Rg w g (0 + 33) T ∧ Rg w g (0 + 66) U := by
  have h33 : ∀ s ∈ [S, T, U], s.length = 33 := fun s hs => by simp at hs; rcases hs with rfl | rfl | rfl <;> assumption
  exact ⟨rg_at (n := 3) h33 h.rg (i := 0) (by simp), rg_at (n := 3) h33 h.rg (i := 1) (by simp), rg_at (n := 3) h33 h.rg (i := 2) (by simp)⟩
set_option maxRecDepth 100000 in
set_option maxHeartbeats 8000000 in
theorem walk (K O M : List Nat) (i k : Nat) (hK : Gf.Bytes K) (lK : K.length = 32) (hO : Gf.Bytes O) (lO : O.length = 32) (hM : Gf.Bytes M) (lM : M.length = 64) (hi : i < 256) (hk : k < 256) (W : World) :
    Calls Try.prog 7 #[.agg (vs K), .agg (vs O), .agg (vs M), .int .u8 (i : Int), .int .u8 (k : Int)] W fun e w' => e = .returned (.bool true) ∧ Below W.heap.size W w' := by
  have HK := Lib.hid (And.intro hK lK)
  have HO := Lib.hid (And.intro hO lO)
  have HM := Lib.hid (And.intro hM lM)
  have hMs : (bs M).size = 64 := by rw [bs_size, lM]
  obtain ⟨a, ha⟩ : ∃ a : Nat, a = i % 5 := ⟨_, rfl⟩
  obtain ⟨c, hc⟩ : ∃ c : Nat, c = k % 5 := ⟨_, rfl⟩
  have la : a < 5 := by omega
  have lc : c < 5 := by omega
  have ea : (i : Int) % 5 = (a : Int) := by omega
  have ec : (k : Int) % 5 = (c : Int) := by omega
  have z1 : W.heap.size + 1 = (W.alloc (Obj.cells (vs K) 23)).heap.size := sz1 _ _
  have z2 : W.heap.size + 1 + 1 = ((W.alloc (Obj.cells (vs K) 23)).alloc (Obj.cells (vs O) 23)).heap.size := by rw [z1]; exact sz1 _ _
  have o0 := ((Own.new W 23 (vs K)).alloc (Obj.cells (vs O) 23)).alloc (Obj.cells (vs M) 36)
  have o1 := (Own.new' (W.alloc (Obj.cells (vs K) 23)) 23 (vs O) z1).alloc (Obj.cells (vs M) 36)
  have o2 := Own.new' ((W.alloc (Obj.cells (vs K) 23)).alloc (Obj.cells (vs O) 23)) 36 (vs M) z2
  have bW := (((Below.refl W.heap.size W).alloc (Nat.le_refl _) (Obj.cells (vs K) 23)).alloc (by omega) (Obj.cells (vs O) 23)).alloc (by omega) (Obj.cells (vs M) 36)
  have hal := alive_any (((W.alloc (Obj.cells (vs K) 23)).alloc (Obj.cells (vs O) 23)).alloc (Obj.cells (vs M) 36))
  have hs1 := fun w => ssplit_ok K (bs M) 5 hK lK hMs (by omega) (by omega) w
  rw [toN_bs hM] at hs1
  have HAC := Lib.hid (And.intro ha hc)
  clear hK lK hO lO hM lM z1 z2 hMs ha hc
  go_enter Try.func7, Try.ntmps7
  go_wp2_with fail
  refine hal.mono ?_
  rintro e w1 ⟨rfl, hb⟩
  replace bW := bW.trans (hb.mono bW.size)
  have r0 := (o0.below hb).rg
  have r1 := (o1.below hb).rg
  have r2 := (o2.below hb).rg
  clear o0 o1 o2 hal hb
  go_wp2_with fail
  replace r0 := r0.drew
  replace r1 := r1.drew
  replace r2 := r2.drew
  replace bW := bW.drew
  refine wp_region_held_drew (S := fun w' => Below w1.drew.heap.size w1.drew w') (by kernel_rfl) (Below.refl _ _) (fun hH => ?_)
  generalize w1.drew = w2 at *
  refine tkH (i := 0) rfl (by kernel_rfl) (by kernel_rfl) (by kernel_rfl) (fun _ _ _ h => h) hH (yld t23 (by rfl) rfl rfl K r0 HK.out.2) ?_
  try simp only [Act.put, List.setIfInBounds_toArray, List.set_cons_zero, List.set_cons_succ]
  refine tkH (v := ?_) (i := 1) rfl (by kernel_rfl) (by kernel_rfl) (by kernel_rfl) (fun _ _ _ h => h) hH (Or.inl ⟨by rfl, ?_⟩) ?_
  rotate_left
  · intro wq hq
    go_simp
    try rfl
  try simp only [Act.put, List.setIfInBounds_toArray, List.set_cons_zero, List.set_cons_succ]
  refine tkH (v := ?_) (i := 2) rfl (by kernel_rfl) (by kernel_rfl) (by kernel_rfl) (fun _ _ _ h => h) hH (Or.inl ⟨by rfl, ?_⟩) ?_
  rotate_left
  · intro wq hq
    have hcv := conv_bs wq (W.heap.size + 1 + 1) 0 M 64 64 HM.out.2 (r2.below hq)
    go_simp
    try rfl
  try simp only [Act.put, List.setIfInBounds_toArray, List.set_cons_zero, List.set_cons_succ]
  refine efH (i := 3) rfl (by kernel_rfl) (by rfl) (fun KK hKK => ?_)
  go_simp
  refine (hs1 _).mono ?_
  rintro e w3 ⟨⟨A, cp, rfl, s1, hcp⟩, hx⟩
  have hH' := hH.trans (hx.mono hH.size)
  go_wp2_with fail
  refine hKK.out _ _ hH' (fun hH => ?_)
  clear hKK KK hH'
  try simp only [Act.put, List.setIfInBounds_toArray, List.set_cons_zero, List.set_cons_succ]
  refine tkH (v := ?_) (i := 4) rfl (by kernel_rfl) (by kernel_rfl) (by kernel_rfl) (fun _ _ _ h => h) hH (Or.inl ⟨by rfl, ?_⟩) ?_
  rotate_left
  · intro wq hq
    go_simp
    try rfl
  try simp only [Act.put, List.setIfInBounds_toArray, List.set_cons_zero, List.set_cons_succ]
  refine tkH (v := ?_) (i := 5) rfl (by kernel_rfl) (by kernel_rfl) (by kernel_rfl) (fun _ _ _ h => h) hH (Or.inl ⟨by rfl, ?_⟩) ?_
  rotate_left
  · intro wq hq
    go_simp
    try rfl
  try simp only [Act.put, List.setIfInBounds_toArray, List.set_cons_zero, List.set_cons_succ]
  refine tkH (v := ?_) (i := 6) rfl (by kernel_rfl) (by kernel_rfl) (by kernel_rfl) (fun _ _ _ h => h) hH (Or.inl ⟨by rfl, ?_⟩) ?_
  rotate_left
  · intro wq hq
    go_simp
    try rfl
  try simp only [Act.put, List.setIfInBounds_toArray, List.set_cons_zero, List.set_cons_succ]
  refine tkH (v := ?_) (i := 7) rfl (by kernel_rfl) (by kernel_rfl) (by kernel_rfl) (fun _ _ _ h => h) hH (Or.inl ⟨by rfl, ?_⟩) ?_
  rotate_left
  · intro wq hq
    go_simp
    try rfl
  try simp only [Act.put, List.setIfInBounds_toArray, List.set_cons_zero, List.set_cons_succ]
  refine tkH (v := ?_) (i := 8) rfl (by kernel_rfl) (by kernel_rfl) (by kernel_rfl) (fun _ _ _ h => h) hH (Or.inl ⟨by rfl, ?_⟩) ?_
  rotate_left
  · intro wq hq
    go_simp
    try rfl
  try simp only [Act.put, List.setIfInBounds_toArray, List.set_cons_zero, List.set_cons_succ]
  refine wpAnyH_done (by kernel_rfl) ?_ _
  try simp only [Act.put, List.getElem_toArray, List.getElem_cons_zero, List.getElem_cons_succ, List.setIfInBounds_toArray, List.set_cons_zero, List.set_cons_succ]
  replace bW := bW.trans (hH.mono bW.size)
  replace r1 := r1.below hH
  clear hs1 hx hH r0 r2
  obtain ⟨b, o, rfl, hsh⟩ := share_at s1 (by omega)
  have hln := s1.1
  by_cases hac : a = c
  · have t1 := eqz a c hac
    clear hac hsh s1
    go_wp2_with fail
    go_ret
    exact ⟨rfl, bW⟩
  · have t1 := eqz' a c hac
    have HN := Lib.hid hac
    clear hac s1 hln
    go_wp2_with fail
    go_loop [15, 16] (fun t n => ∃ j : Nat, j ≤ 5 ∧ n = .int .i64 j ∧ t = .int .i64 (th a c j : Nat)) (fun _ n => 5 - (intOf n).toNat)
    case atStart => exact ⟨0, by omega, rfl, rfl⟩
    case round =>
      obtain ⟨j, hj, rfl, rfl⟩ := hrel
      by_cases hlj : j < 5
      · have ij : (j : Int) < 5 := by omega
        by_cases hja : j = a
        · have t2 : (((j : Nat) : Int) != ((a : Nat) : Int)) = false := by simp [hja]
          have HE : Hid (th a c (j + 1) = th a c j) := Lib.hid (by unfold th; rw [if_neg (fun h => h.1 hja)]; cases j <;> rfl)
          clear hja
          go_wp2_with fail
          go_round
          case rel => exact ⟨j + 1, by omega, by go_num, by rw [HE.out]⟩
          case measure => first | (simp [intOf]; done) | (simp [intOf]; omega)
        · have t2 : (((j : Nat) : Int) != ((a : Nat) : Int)) = true := by rw [bne_iff_ne]; omega
          by_cases hjc : j = c
          · have t3 : (((j : Nat) : Int) != ((c : Nat) : Int)) = false := by simp [hjc]
            have HE : Hid (th a c (j + 1) = th a c j) := Lib.hid (by unfold th; rw [if_neg (fun h => h.2 hjc)]; cases j <;> rfl)
            clear hja hjc
            go_wp2_with fail
            go_round
            case rel => exact ⟨j + 1, by omega, by go_num, by rw [HE.out]⟩
            case measure => first | (simp [intOf]; done) | (simp [intOf]; omega)
          · have t3 : (((j : Nat) : Int) != ((c : Nat) : Int)) = true := by rw [bne_iff_ne]; omega
            have HE : Hid (th a c (j + 1) = j) := Lib.hid (by unfold th; rw [if_pos ⟨hja, hjc⟩])
            clear hja hjc
            go_wp2_with fail
            go_round
            case rel => exact ⟨j + 1, by omega, by go_num, by rw [HE.out]⟩
            case measure => first | (simp [intOf]; done) | (simp [intOf]; omega)
      · obtain rfl : j = 5 := by omega
        have ij : decide ((5 : Int) < 5) = false := by decide
        obtain ⟨t5, ta, tc⟩ := th_end a la c lc
        generalize th a c 5 = t at *
        have HT := Lib.hid (And.intro ta tc)
        clear ta tc
        have rS := hsh a la
        have rT := hsh c lc
        have lS := Sx.shr_length K M (a + 1)
        have lT := Sx.shr_length K M (c + 1)
        have bS := Sx.shr_bytes HK.out.1 HM.out.1 (show a + 1 < 256 by omega)
        have bT := Sx.shr_bytes HK.out.1 HM.out.1 (show c + 1 < 256 by omega)
        have nS := Sx.shr_head K M (a + 1)
        have nT := Sx.shr_head K M (c + 1)
        have lU := Sx.third_length O (Sx.shr K M (a + 1)) (Sx.shr K M (c + 1)) (t + 1)
        have bU := Sx.third_bytes HO.out.1 bS bT (show t + 1 < 256 by omega)
        have nU := Sx.third_head O (Sx.shr K M (a + 1)) (Sx.shr K M (c + 1)) (t + 1)
        have hfit := fun (N : List Nat) hN cc h => Sx.fits HK.out.1 HM.out.1 HO.out.1 (show a + 1 < 256 by omega) (show c + 1 < 256 by omega) (show t + 1 < 256 by omega) (by omega) (by omega) (by have := HN.out; omega) (by have := HT.out; omega) (by have := HT.out; omega) N hN cc h
        have hth := fun w => third_any O (Sx.shr K M (a + 1)) (Sx.shr K M (c + 1)) (t + 1) w (by omega) HO.out.1 HO.out.2 bS lS bT lT (by rw [nS]; omega) (by rw [nT]; omega) (by rw [nS, nT]; have := HN.out; omega)
        have hdd : Gf.dup [Gf.nth (Sx.shr K M (a + 1)) 0, Gf.nth (Sx.shr K M (c + 1)) 0, Gf.nth (Sx.third O (Sx.shr K M (a + 1)) (Sx.shr K M (c + 1)) (t + 1)) 0] = false := by
          rw [nS, nT, nU]
          exact Sx.dup3_ne (by have := HN.out; omega) (by have := HT.out; omega) (by have := HT.out; omega)
        have eT : IntKind.i64.wrap ((t : Int) + 1) = ((t + 1 : Nat) : Int) := by rw [IntWalk.i64_in _ (by omega)]; omega
        have eX : IntKind.u8.wrap ((t + 1 : Nat) : Int) = ((t + 1 : Nat) : Int) := by rw [IntKind.wrap_u8]; omega
        have ia : (a : Int) < 5 := by omega
        have ic : (c : Int) < 5 := by omega
        generalize hU : Sx.third O (Sx.shr K M (a + 1)) (Sx.shr K M (c + 1)) (t + 1) = U at *
        have hfA := fun N hN => hfit N hN (a + 1) (.inl rfl)
        have hfC := fun N hN => hfit N hN (c + 1) (.inr rfl)
        generalize Sx.shr K M (a + 1) = S at *
        generalize Sx.shr K M (c + 1) = T at *
        generalize t + 1 = X at *
        have HFA := Lib.hid (And.intro hfA (And.intro hfC (And.intro hdd (And.intro bS (And.intro bT bU)))))
        clear hfit hfA hfC hdd bS bT bU nS nT nU hU hsh
        go_wp2_with fail
        replace r1 := r1.drew
        replace rS := rS.drew
        replace rT := rT.drew
        replace bW := bW.drew
        refine wp_region_held_drew (S := fun w' => Below w3.drew.heap.size w3.drew w') (by kernel_rfl) (Below.refl _ _) (fun hH => ?_)
        generalize w3.drew = y0 at *
        refine tkH (v := ?_) (i := 0) rfl (by kernel_rfl) (by kernel_rfl) (by kernel_rfl) (fun _ _ _ h => h) hH (Or.inl ⟨by rfl, ?_⟩) ?_
        rotate_left
        · intro wq hq
          go_simp
          try rfl
        try simp only [Act.put, List.setIfInBounds_toArray, List.set_cons_zero, List.set_cons_succ]
        refine tkH (v := ?_) (i := 1) rfl (by kernel_rfl) (by kernel_rfl) (by kernel_rfl) (fun _ _ _ h => h) hH (Or.inl ⟨by rfl, ?_⟩) ?_
        rotate_left
        · intro wq hq
          go_simp
          try rfl
        try simp only [Act.put, List.setIfInBounds_toArray, List.set_cons_zero, List.set_cons_succ]
        refine tkH (v := ?_) (i := 2) rfl (by kernel_rfl) (by kernel_rfl) (by kernel_rfl) (fun _ _ _ h => h) hH (Or.inl ⟨by rfl, ?_⟩) ?_
        rotate_left
        · intro wq hq
          go_simp
          try rfl
        try simp only [Act.put, List.setIfInBounds_toArray, List.set_cons_zero, List.set_cons_succ]
        refine tkH (i := 3) rfl (by kernel_rfl) (by kernel_rfl) (by kernel_rfl) (fun _ _ _ h => h) hH (yld t34 (by rfl) rfl rfl S rS lS) ?_
        try simp only [Act.put, List.setIfInBounds_toArray, List.set_cons_zero, List.set_cons_succ]
        refine tkH (v := ?_) (i := 4) rfl (by kernel_rfl) (by kernel_rfl) (by kernel_rfl) (fun _ _ _ h => h) hH (Or.inl ⟨by rfl, ?_⟩) ?_
        rotate_left
        · intro wq hq
          go_simp
          try rfl
        try simp only [Act.put, List.setIfInBounds_toArray, List.set_cons_zero, List.set_cons_succ]
        refine tkH (v := ?_) (i := 5) rfl (by kernel_rfl) (by kernel_rfl) (by kernel_rfl) (fun _ _ _ h => h) hH (Or.inl ⟨by rfl, ?_⟩) ?_
        rotate_left
        · intro wq hq
          go_simp
          try rfl
        try simp only [Act.put, List.setIfInBounds_toArray, List.set_cons_zero, List.set_cons_succ]
        refine tkH (v := ?_) (i := 6) rfl (by kernel_rfl) (by kernel_rfl) (by kernel_rfl) (fun _ _ _ h => h) hH (Or.inl ⟨by rfl, ?_⟩) ?_
        rotate_left
        · intro wq hq
          go_simp
          try rfl
        try simp only [Act.put, List.setIfInBounds_toArray, List.set_cons_zero, List.set_cons_succ]
        refine tkH (i := 7) rfl (by kernel_rfl) (by kernel_rfl) (by kernel_rfl) (fun _ _ _ h => h) hH (yld t34 (by rfl) rfl rfl T rT lT) ?_
        try simp only [Act.put, List.setIfInBounds_toArray, List.set_cons_zero, List.set_cons_succ]
        refine tkH (i := 8) rfl (by kernel_rfl) (by kernel_rfl) (by kernel_rfl) (fun _ _ _ h => h) hH (yld t23 (by rfl) rfl rfl O r1 HO.out.2) ?_
        try simp only [Act.put, List.setIfInBounds_toArray, List.set_cons_zero, List.set_cons_succ]
        refine tkH (v := ?_) (i := 9) rfl (by kernel_rfl) (by kernel_rfl) (by kernel_rfl) (fun _ _ _ h => h) hH (Or.inl ⟨by rfl, ?_⟩) ?_
        rotate_left
        · intro wq hq
          go_simp
          try rfl
        try simp only [Act.put, List.setIfInBounds_toArray, List.set_cons_zero, List.set_cons_succ]
        refine tkH (v := ?_) (i := 10) rfl (by kernel_rfl) (by kernel_rfl) (by kernel_rfl) (fun _ _ _ h => h) hH (Or.inl ⟨by rfl, ?_⟩) ?_
        rotate_left
        · intro wq hq
          go_simp
          try rfl
        try simp only [Act.put, List.setIfInBounds_toArray, List.set_cons_zero, List.set_cons_succ]
        refine tkH (v := ?_) (i := 11) rfl (by kernel_rfl) (by kernel_rfl) (by kernel_rfl) (fun _ _ _ h => h) hH (Or.inl ⟨by rfl, ?_⟩) ?_
        rotate_left
        · intro wq hq
          go_simp
          try rfl
        try simp only [Act.put, List.setIfInBounds_toArray, List.set_cons_zero, List.set_cons_succ]
        refine tkH (i := 12) rfl (by kernel_rfl) (by kernel_rfl) (by kernel_rfl) (fun _ _ _ h => h) hH (yld t34 (by rfl) rfl rfl S rS lS) ?_
        try simp only [Act.put, List.setIfInBounds_toArray, List.set_cons_zero, List.set_cons_succ]
        refine tkH (v := ?_) (i := 13) rfl (by kernel_rfl) (by kernel_rfl) (by kernel_rfl) (fun _ _ _ h => h) hH (Or.inl ⟨by rfl, ?_⟩) ?_
        rotate_left
        · intro wq hq
          go_simp
          try rfl
        try simp only [Act.put, List.setIfInBounds_toArray, List.set_cons_zero, List.set_cons_succ]
        refine tkH (v := ?_) (i := 14) rfl (by kernel_rfl) (by kernel_rfl) (by kernel_rfl) (fun _ _ _ h => h) hH (Or.inl ⟨by rfl, ?_⟩) ?_
        rotate_left
        · intro wq hq
          go_simp
          try rfl
        try simp only [Act.put, List.setIfInBounds_toArray, List.set_cons_zero, List.set_cons_succ]
        refine tkH (v := ?_) (i := 15) rfl (by kernel_rfl) (by kernel_rfl) (by kernel_rfl) (fun _ _ _ h => h) hH (Or.inl ⟨by rfl, ?_⟩) ?_
        rotate_left
        · intro wq hq
          go_simp
          try rfl
        try simp only [Act.put, List.setIfInBounds_toArray, List.set_cons_zero, List.set_cons_succ]
        refine tkH (i := 16) rfl (by kernel_rfl) (by kernel_rfl) (by kernel_rfl) (fun _ _ _ h => h) hH (yld t34 (by rfl) rfl rfl T rT lT) ?_
        try simp only [Act.put, List.setIfInBounds_toArray, List.set_cons_zero, List.set_cons_succ]
        refine tkH (v := ?_) (i := 17) rfl (by kernel_rfl) (by kernel_rfl) (by kernel_rfl) (fun _ _ _ h => h) hH (Or.inl ⟨by rfl, ?_⟩) ?_
        rotate_left
        · intro wq hq
          go_simp
          try rfl
        try simp only [Act.put, List.setIfInBounds_toArray, List.set_cons_zero, List.set_cons_succ]
        refine tkH (v := ?_) (i := 18) rfl (by kernel_rfl) (by kernel_rfl) (by kernel_rfl) (fun _ _ _ h => h) hH (Or.inl ⟨by rfl, ?_⟩) ?_
        rotate_left
        · intro wq hq
          go_simp
          try rfl
        try simp only [Act.put, List.setIfInBounds_toArray, List.set_cons_zero, List.set_cons_succ]
        refine tkH (v := ?_) (i := 19) rfl (by kernel_rfl) (by kernel_rfl) (by kernel_rfl) (fun _ _ _ h => h) hH (Or.inl ⟨by rfl, ?_⟩) ?_
        rotate_left
        · intro wq hq
          go_simp
          try rfl
        try simp only [Act.put, List.setIfInBounds_toArray, List.set_cons_zero, List.set_cons_succ]
        refine efH (i := 20) rfl (by kernel_rfl) (by rfl) (fun KK hKK => ?_)
        go_simp
        refine (hth _).mono ?_
        rintro e y1 ⟨rfl, hx⟩
        have hH' := hH.trans (hx.mono hH.size)
        go_wp2_with fail
        refine hKK.out _ _ hH' (fun hH => ?_)
        clear hKK KK hH'
        try simp only [Act.put, List.setIfInBounds_toArray, List.set_cons_zero, List.set_cons_succ]
        refine efH (i := 21) rfl (by kernel_rfl) (by rfl) (fun KK hKK => ?_)
        refine wp_of_exec (exec_lit3 lS lT lU rfl rfl rfl rfl y1) ?_
        refine hKK.out _ _ (hH.alloc hH.size _) (fun hH => ?_)
        clear hKK KK
        try simp only [Act.put, List.setIfInBounds_toArray, List.set_cons_zero, List.set_cons_succ]
        have oL := Own.new y1 34 (vs [S, T, U].flatten)
        generalize y1.alloc (Obj.cells (vs [S, T, U].flatten) 34) = y3 at *
        generalize y1.heap.size = gL at *
        refine tkH (v := ?_) (i := 22) rfl (by kernel_rfl) (by kernel_rfl) (by kernel_rfl) (fun _ _ _ h => h) hH (Or.inl ⟨by rfl, ?_⟩) ?_
        rotate_left
        · intro wq hq
          go_simp
          try rfl
        try simp only [Act.put, List.setIfInBounds_toArray, List.set_cons_zero, List.set_cons_succ]
        refine wpAnyH_done (by kernel_rfl) ?_ _
        try simp only [Act.put, List.getElem_toArray, List.getElem_cons_zero, List.getElem_cons_succ, List.setIfInBounds_toArray, List.set_cons_zero, List.set_cons_succ]
        clear hth eT eX hx
        obtain ⟨p, q, hpq⟩ : ∃ p q : Nat → Nat, ∀ x, Sx.coef S T U O x = (p x, q x) := ⟨fun x => (Sx.coef S T U O x).1, fun x => (Sx.coef S T U O x).2, fun x => rfl⟩
        have hp : ∀ x, p x < 256 := fun x => by have h := (coef_lt HFA.out.2.2.2.1 HFA.out.2.2.2.2.1 HFA.out.2.2.2.2.2 HO.out.1 x).1; rw [hpq] at h; exact h
        have hq : ∀ x, q x < 256 := fun x => by have h := (coef_lt HFA.out.2.2.2.1 HFA.out.2.2.2.2.1 HFA.out.2.2.2.2.2 HO.out.1 x).2; rw [hpq] at h; exact h
        have HPQ := Lib.hid (And.intro hpq (And.intro hp hq))
        clear hpq hp hq
        obtain ⟨v1, v2, v3⟩ := lit3_rg lS lT lU oL
        replace bW := bW.trans (hH.mono bW.size)
        replace r1 := r1.below hH
        replace rS := rS.below hH
        replace rT := rT.below hH
        clear hH oL
        have hmk : (Instr.makeSlice 38 (.int .i64 64) (.int .i64 64)).run Try.prog y3 = .ok (.slice (some ⟨y3.heap.size, 0, none⟩) 64 64) (y3.alloc (.cells (vs (zs 64)) 5)) := mk38 64 (by omega) y3
        have oM := Own.new y3 5 (vs (zs 64))
        have bMs := bW.size
        have hb1 : W.heap.size + 1 < y3.heap.size := block_lt_of_cell (r1.cell (i := 0) (by rw [HO.out.2]; omega))
        have hb2 : b < y3.heap.size := block_lt_of_cell (rS.cell (i := 0) (by omega))
        have hb3 : gL < y3.heap.size := block_lt_of_cell (v1.cell (i := 0) (by omega))
        replace bW := bW.alloc (by omega) (Obj.cells (vs (zs 64)) 5)
        have k1 : Below y3.heap.size y3 (y3.alloc (Obj.cells (vs (zs 64)) 5)) := (Below.refl _ _).alloc (Nat.le_refl _) _
        replace r1 := r1.below k1
        replace rS := rS.below k1
        replace rT := rT.below k1
        replace v1 := v1.below k1
        replace v2 := v2.below k1
        replace v3 := v3.below k1
        clear k1
        go_wp2_with fail
        generalize y3.alloc (Obj.cells (vs (zs 64)) 5) = y4 at *
        generalize y3.heap.size = gm at *
        clear hmk
        rw [← rowF_zero p q] at oM
        have gle : gm < y4.heap.size := oM.lt
        go_loopw [19] (fun i wr => ∃ j : Nat, j ≤ 32 ∧ i = .int .i64 j ∧ Own wr gm 5 (vs (rowF p q j)) ∧ Below gm y4 wr) (fun i _ => 32 - (intOf i).toNat)
        case atStart => exact ⟨0, by omega, rfl, oM, Below.refl _ _⟩
        case round =>
          clear oM
          obtain ⟨j, hj, rfl, oM, hbj⟩ := hrel
          generalize wr = wj at *
          replace r1 := rgB r1 hbj hb1
          replace rS := rgB rS hbj hb2
          replace rT := rgB rT hbj hb2
          replace v1 := rgB v1 hbj hb3
          replace v2 := rgB v2 hbj hb3
          replace v3 := rgB v3 hbj hb3
          by_cases hlj : j < 32
          · have ij : (j : Int) < 32 := by omega
            have hco := coef_any 3 gL 0 j S T U O wj HFA.out.2.2.2.1 HFA.out.2.2.2.2.1 HFA.out.2.2.2.2.2 lS lT lU HO.out.1 HO.out.2 hlj v1 v2 v3 HFA.out.2.2.1
            rw [HPQ.out.1 j] at hco
            have e32 : IntKind.i64.wrap (32 + (j : Int)) = 32 + (j : Int) := IntWalk.i64_in _ (by omega)
            have n32 : (32 + (j : Int)).toNat = 32 + j := by omega
            have i32 : 32 + (j : Int) < 64 := by omega
            have j64 : (j : Int) < 64 := by omega
            have hne : ¬ (32 + j = j) := by omega
            go_wp2_with (refine ld t23 rfl rfl rfl r1 HO.out.2 ?_)
            refine hco.mono ?_
            rintro e wk ⟨rfl, hb⟩
            have gj := oM.lt
            replace oM := oM.below hb
            have f1 := oM.frozen j
            have c1 := oM.cellb (i := j) (by rw [rowF_length]; omega)
            have f2 := oM.frozen (32 + j)
            have c2 := oM.cellb (i := 32 + j) (by rw [rowF_length]; omega)
            have bk := ((hbj.trans (hb.mono (Nat.le_of_lt gj))).setCell (p := ⟨gm, j, none⟩) (Nat.le_refl _) (.int .u8 (p j : Nat))).setCell (p := ⟨gm, 32 + j, none⟩) (Nat.le_refl _) (.int .u8 (q j : Nat))
            have oN := (oM.setb j (p j)).setb (32 + j) (q j)
            rw [rowF_set _ _ _ hlj] at oN
            clear hco r1 rS rT v1 v2 v3 hb
            go_wp2_with fail
            clear f1 c1 f2 c2
            go_roundw
            case rel => exact ⟨j + 1, by omega, by go_num, oN, bk⟩
            case measure => first | (simp [intOf]; done) | (simp [intOf]; omega)
          · obtain rfl : j = 32 := by omega
            have ij : decide ((32 : Int) < 32) = false := by decide
            have hNb := rowF_bytes HPQ.out.2.1 HPQ.out.2.2 32
            have lN := rowF_length p q 32
            have hN : ∀ i, i < 32 → (Gf.nth (rowF p q 32) i, Gf.nth (rowF p q 32) (32 + i)) = Sx.coef S T U O i := fun i hi => by rw [rowF_lo _ _ hi, rowF_hi _ _ hi, HPQ.out.1 i]
            have eA := HFA.out.1 _ hN
            have eC := HFA.out.2.1 _ hN
            clear hN
            generalize rowF p q 32 = N at *
            have sN : (bs N).size = 64 := by rw [bs_size, lN]
            have hsO := fun w => ssplit_ok O (bs N) 5 HO.out.1 HO.out.2 sN (by omega) (by omega) w
            rw [toN_bs hNb] at hsO
            have hcv := conv_bs wj gm 0 N 64 64 lN oM.rg
            have bj := bW.trans (hbj.mono bMs)
            have bS := HFA.out.2.2.2.1
            have bT := HFA.out.2.2.2.2.1
            have hsj := hbj.size
            clear v1 v2 v3 hNb sN hbj oM bW
            go_wp2_with (refine ld t23 rfl rfl rfl r1 HO.out.2 ?_)
            refine (hsO _).mono ?_
            rintro e wk ⟨⟨A2, cp2, rfl, s2, hc2⟩, hb⟩
            obtain ⟨b2, o2', rfl, hsh2⟩ := share_at s2 (by omega)
            have xS := hsh2 a la
            have xT := hsh2 c lc
            rw [eA] at xS
            rw [eC] at xT
            replace rS := rS.below hb
            replace rT := rT.below hb
            replace bj := bj.trans (hb.mono bj.size)
            have dS : decide (S = S) = true := decide_eq_true rfl
            have dT : decide (T = T) = true := decide_eq_true rfl
            have la' : (a : Int) < 5 := by omega
            have lc' : (c : Int) < 5 := by omega
            clear hsO hcv hsh2 s2 eA eC hb r1
            go_wp2_with fail
            replace xS := xS.drew
            replace xT := xT.drew
            replace rS := rS.drew
            replace rT := rT.drew
            replace bj := bj.drew
            refine wp_region_held_drew (S := fun w' => Below wk.drew.heap.size wk.drew w') (by kernel_rfl) (Below.refl _ _) (fun hH => ?_)
            generalize wk.drew = z0 at *
            refine tkH (v := ?_) (i := 0) rfl (by kernel_rfl) (by kernel_rfl) (by kernel_rfl) (fun _ _ _ h => h) hH (Or.inl ⟨by kernel_rfl, ?_⟩) ?_
            rotate_left
            · intro wq hq
              go_simp
              try rfl
            try simp only [Act.put, List.setIfInBounds_toArray, List.set_cons_zero, List.set_cons_succ]
            refine tkH (v := ?_) (i := 1) rfl (by kernel_rfl) (by kernel_rfl) (by kernel_rfl) (fun _ _ _ h => h) hH (Or.inl ⟨by kernel_rfl, ?_⟩) ?_
            rotate_left
            · intro wq hq
              go_simp
              try rfl
            try simp only [Act.put, List.setIfInBounds_toArray, List.set_cons_zero, List.set_cons_succ]
            refine tkH (v := ?_) (i := 2) rfl (by kernel_rfl) (by kernel_rfl) (by kernel_rfl) (fun _ _ _ h => h) hH (Or.inl ⟨by kernel_rfl, ?_⟩) ?_
            rotate_left
            · intro wq hq
              go_simp
              try rfl
            try simp only [Act.put, List.setIfInBounds_toArray, List.set_cons_zero, List.set_cons_succ]
            refine tkH (v := ?_) (i := 3) rfl (by kernel_rfl) (by kernel_rfl) (by kernel_rfl) (fun _ _ _ h => h) hH (Or.inl ⟨by kernel_rfl, ?_⟩) ?_
            rotate_left
            · intro wq hq
              go_simp
              try rfl
            try simp only [Act.put, List.setIfInBounds_toArray, List.set_cons_zero, List.set_cons_succ]
            refine tkH (v := ?_) (i := 4) rfl (by kernel_rfl) (by kernel_rfl) (by kernel_rfl) (fun _ _ _ h => h) hH (Or.inl ⟨by kernel_rfl, ?_⟩) ?_
            rotate_left
            · intro wq hq
              go_simp
              try rfl
            try simp only [Act.put, List.setIfInBounds_toArray, List.set_cons_zero, List.set_cons_succ]
            refine tkH (v := ?_) (i := 5) rfl (by kernel_rfl) (by kernel_rfl) (by kernel_rfl) (fun _ _ _ h => h) hH (Or.inl ⟨by kernel_rfl, ?_⟩) ?_
            rotate_left
            · intro wq hq
              go_simp
              try rfl
            try simp only [Act.put, List.setIfInBounds_toArray, List.set_cons_zero, List.set_cons_succ]
            refine tkH (v := ?_) (i := 6) rfl (by kernel_rfl) (by kernel_rfl) (by kernel_rfl) (fun _ _ _ h => h) hH (Or.inl ⟨by kernel_rfl, ?_⟩) ?_
            rotate_left
            · intro wq hq
              go_simp
              try rfl
            try simp only [Act.put, List.setIfInBounds_toArray, List.set_cons_zero, List.set_cons_succ]
            refine tkH (v := ?_) (i := 7) rfl (by kernel_rfl) (by kernel_rfl) (by kernel_rfl) (fun _ _ _ h => h) hH (Or.inl ⟨by kernel_rfl, ?_⟩) ?_
            rotate_left
            · intro wq hq
              go_simp
              try rfl
            try simp only [Act.put, List.setIfInBounds_toArray, List.set_cons_zero, List.set_cons_succ]
            refine tkH (v := ?_) (i := 8) rfl (by kernel_rfl) (by kernel_rfl) (by kernel_rfl) (fun _ _ _ h => h) hH (Or.inl ⟨by kernel_rfl, ?_⟩) ?_
            rotate_left
            · intro wq hq
              go_simp
              try rfl
            try simp only [Act.put, List.setIfInBounds_toArray, List.set_cons_zero, List.set_cons_succ]
            refine tkH (v := ?_) (i := 9) rfl (by kernel_rfl) (by kernel_rfl) (by kernel_rfl) (fun _ _ _ h => h) hH (Or.inl ⟨by kernel_rfl, ?_⟩) ?_
            rotate_left
            · intro wq hq
              go_simp
              try rfl
            try simp only [Act.put, List.setIfInBounds_toArray, List.set_cons_zero, List.set_cons_succ]
            refine tkH (v := ?_) (i := 10) rfl (by kernel_rfl) (by kernel_rfl) (by kernel_rfl) (fun _ _ _ h => h) hH (Or.inl ⟨by kernel_rfl, ?_⟩) ?_
            rotate_left
            · intro wq hq
              go_simp
              try rfl
            try simp only [Act.put, List.setIfInBounds_toArray, List.set_cons_zero, List.set_cons_succ]
            refine tkH (i := 11) rfl (by kernel_rfl) (by kernel_rfl) (by kernel_rfl) (fun _ _ _ h => h) hH (yld t34 (by kernel_rfl) rfl rfl S xS lS) ?_
            try simp only [Act.put, List.setIfInBounds_toArray, List.set_cons_zero, List.set_cons_succ]
            refine tkH (v := ?_) (i := 12) rfl (by kernel_rfl) (by kernel_rfl) (by kernel_rfl) (fun _ _ _ h => h) hH (Or.inl ⟨by kernel_rfl, ?_⟩) ?_
            rotate_left
            · intro wq hq
              go_simp
              try rfl
            try simp only [Act.put, List.setIfInBounds_toArray, List.set_cons_zero, List.set_cons_succ]
            refine tkH (v := ?_) (i := 13) rfl (by kernel_rfl) (by kernel_rfl) (by kernel_rfl) (fun _ _ _ h => h) hH (Or.inl ⟨by kernel_rfl, ?_⟩) ?_
            rotate_left
            · intro wq hq
              go_simp
              try rfl
            try simp only [Act.put, List.setIfInBounds_toArray, List.set_cons_zero, List.set_cons_succ]
            refine tkH (v := ?_) (i := 14) rfl (by kernel_rfl) (by kernel_rfl) (by kernel_rfl) (fun _ _ _ h => h) hH (Or.inl ⟨by kernel_rfl, ?_⟩) ?_
            rotate_left
            · intro wq hq
              go_simp
              try rfl
            try simp only [Act.put, List.setIfInBounds_toArray, List.set_cons_zero, List.set_cons_succ]
            refine tkH (i := 15) rfl (by kernel_rfl) (by kernel_rfl) (by kernel_rfl) (fun _ _ _ h => h) hH (yld t34 (by kernel_rfl) rfl rfl S rS lS) ?_
            try simp only [Act.put, List.setIfInBounds_toArray, List.set_cons_zero, List.set_cons_succ]
            refine tkH (i := 16) rfl (by kernel_rfl) (by kernel_rfl) (by kernel_rfl) (fun _ _ _ h => h) hH ((ycmp cmp34 false S S (by kernel_rfl) rfl rfl rfl lS lS bS bS).yieldsIf) ?_
            try simp only [Act.put, List.setIfInBounds_toArray, List.set_cons_zero, List.set_cons_succ]
            rw [dS]
            refine tkH (v := ?_) (i := 17) rfl (by kernel_rfl) (by kernel_rfl) (by kernel_rfl) (fun _ _ _ h => h) hH (Or.inl ⟨by kernel_rfl, ?_⟩) ?_
            rotate_left
            · intro wq hq
              go_simp
              try rfl
            try simp only [Act.put, List.setIfInBounds_toArray, List.set_cons_zero, List.set_cons_succ]
            refine tkH (v := ?_) (i := 18) rfl (by kernel_rfl) (by kernel_rfl) (by kernel_rfl) (fun _ _ _ h => h) hH (Or.inl ⟨by kernel_rfl, ?_⟩) ?_
            rotate_left
            · intro wq hq
              go_simp
              try rfl
            try simp only [Act.put, List.setIfInBounds_toArray, List.set_cons_zero, List.set_cons_succ]
            refine tkH (v := ?_) (i := 19) rfl (by kernel_rfl) (by kernel_rfl) (by kernel_rfl) (fun _ _ _ h => h) hH (Or.inl ⟨by kernel_rfl, ?_⟩) ?_
            rotate_left
            · intro wq hq
              go_simp
              try rfl
            try simp only [Act.put, List.setIfInBounds_toArray, List.set_cons_zero, List.set_cons_succ]
            refine tkH (v := ?_) (i := 20) rfl (by kernel_rfl) (by kernel_rfl) (by kernel_rfl) (fun _ _ _ h => h) hH (Or.inl ⟨by kernel_rfl, ?_⟩) ?_
            rotate_left
            · intro wq hq
              go_simp
              try rfl
            try simp only [Act.put, List.setIfInBounds_toArray, List.set_cons_zero, List.set_cons_succ]
            refine tkH (v := ?_) (i := 21) rfl (by kernel_rfl) (by kernel_rfl) (by kernel_rfl) (fun _ _ _ h => h) hH (Or.inl ⟨by kernel_rfl, ?_⟩) ?_
            rotate_left
            · intro wq hq
              go_simp
              try rfl
            try simp only [Act.put, List.setIfInBounds_toArray, List.set_cons_zero, List.set_cons_succ]
            refine tkH (i := 22) rfl (by kernel_rfl) (by kernel_rfl) (by kernel_rfl) (fun _ _ _ h => h) hH (yld t34 (by kernel_rfl) rfl rfl T xT lT) ?_
            try simp only [Act.put, List.setIfInBounds_toArray, List.set_cons_zero, List.set_cons_succ]
            refine tkH (v := ?_) (i := 23) rfl (by kernel_rfl) (by kernel_rfl) (by kernel_rfl) (fun _ _ _ h => h) hH (Or.inl ⟨by kernel_rfl, ?_⟩) ?_
            rotate_left
            · intro wq hq
              go_simp
              try rfl
            try simp only [Act.put, List.setIfInBounds_toArray, List.set_cons_zero, List.set_cons_succ]
            refine tkH (v := ?_) (i := 24) rfl (by kernel_rfl) (by kernel_rfl) (by kernel_rfl) (fun _ _ _ h => h) hH (Or.inl ⟨by kernel_rfl, ?_⟩) ?_
            rotate_left
            · intro wq hq
              go_simp
              try rfl
            try simp only [Act.put, List.setIfInBounds_toArray, List.set_cons_zero, List.set_cons_succ]
            refine tkH (v := ?_) (i := 25) rfl (by kernel_rfl) (by kernel_rfl) (by kernel_rfl) (fun _ _ _ h => h) hH (Or.inl ⟨by kernel_rfl, ?_⟩) ?_
            rotate_left
            · intro wq hq
              go_simp
              try rfl
            try simp only [Act.put, List.setIfInBounds_toArray, List.set_cons_zero, List.set_cons_succ]
            refine tkH (i := 26) rfl (by kernel_rfl) (by kernel_rfl) (by kernel_rfl) (fun _ _ _ h => h) hH (yld t34 (by kernel_rfl) rfl rfl T rT lT) ?_
            try simp only [Act.put, List.setIfInBounds_toArray, List.set_cons_zero, List.set_cons_succ]
            refine tkH (i := 27) rfl (by kernel_rfl) (by kernel_rfl) (by kernel_rfl) (fun _ _ _ h => h) hH ((ycmp cmp34 false T T (by kernel_rfl) rfl rfl rfl lT lT bT bT).yieldsIf) ?_
            try simp only [Act.put, List.setIfInBounds_toArray, List.set_cons_zero, List.set_cons_succ]
            rw [dT]
            refine tkH (v := ?_) (i := 28) rfl (by kernel_rfl) (by kernel_rfl) (by kernel_rfl) (fun _ _ _ h => h) hH (Or.inl ⟨by kernel_rfl, ?_⟩) ?_
            rotate_left
            · intro wq hq
              go_simp
              try rfl
            try simp only [Act.put, List.setIfInBounds_toArray, List.set_cons_zero, List.set_cons_succ]
            refine tkH (v := ?_) (i := 29) rfl (by kernel_rfl) (by kernel_rfl) (by kernel_rfl) (fun _ _ _ h => h) hH (Or.inl ⟨by kernel_rfl, ?_⟩) ?_
            rotate_left
            · intro wq hq
              go_simp
              try rfl
            try simp only [Act.put, List.setIfInBounds_toArray, List.set_cons_zero, List.set_cons_succ]
            refine wpAnyH_done (by kernel_rfl) ?_ _
            try simp only [Act.put, List.getElem_toArray, List.getElem_cons_zero, List.getElem_cons_succ, List.setIfInBounds_toArray, List.set_cons_zero, List.set_cons_succ]
            go_wp2_with fail
            go_ret
            exact ⟨rfl, bj.trans (hH.mono bj.size)⟩

set_option maxRecDepth 100000 in
theorem lifted (os : Os) (started : os.Started) (H : Type) (enc : TypeId × Value → H) :
    ReturnsInHanded {} Try.checked os 7 .any (Rows.shareFitsSpec.pre6 enc Try.prog Try.f7 Rows.shareFitsRow.domain false) (Rows.shareFitsSpec.post enc Try.prog Try.f7 false true false false) := by
  refine returnsInHanded_of_change (C := Try.checked) own started (by kernel_rfl) Try.func7
    (ChangeSpec.witness6 (enc := enc) (C := Try.checked) false ⟨#[], #[.agg (Array.replicate 32 (.int .u8 0)), .agg (Array.replicate 32 (.int .u8 0)), .agg (Array.replicate 64 (.int .u8 0)), .int .u8 0, .int .u8 0], []⟩ 8 (by kernel_rfl) (by kernel_rfl) (by kernel_rfl) (by kernel_rfl)) ?_
  intro W base args ds gs before hval0 hW hcnd _
  have hval : ∀ (j : Nat) t v, Try.f7.params[j]? = some t → args[j]? = some v → Value.okWide Try.prog W .any base t v := hval0
  have hW' := hW
  obtain ⟨p, q, hA0, hV, rfl, hfz, hnd⟩ := hW
  have hA : DataW.TrodAll enc Try.prog W 0 (fun _ => true) true Try.f7.params.toList args.toList ds p := hA0
  rw [Try.params7] at hA hval
  obtain ⟨v0, vs0, d0, ds0, p0, q0, hargs, rfl, rfl, h0, r0⟩ := trodAll_cons hA
  obtain ⟨v1, vs1, d1, ds1, p1, q1, rfl, rfl, rfl, h1, r1⟩ := trodAll_cons r0
  obtain ⟨v2, vs2, d2, ds2, p2, q2, rfl, rfl, rfl, h2, r2⟩ := trodAll_cons r1
  obtain ⟨v3, vs3, d3, ds3, p3, q3, rfl, rfl, rfl, h3, r3⟩ := trodAll_cons r2
  obtain ⟨v4, vs4, d4, ds4, p4, q4, rfl, rfl, rfl, h4, r4⟩ := trodAll_cons r3
  obtain ⟨rfl, rfl, rfl⟩ := trodAll_nil r4
  obtain rfl : args = #[v0, v1, v2, v3, v4] := by cases args; simp_all
  obtain ⟨rfl, rfl⟩ := trodVars_none hV
  obtain ⟨K0, rfl, l0, b0⟩ := okKey (hval 0 23 v0 rfl rfl)
  have k0 := h0
  have lt0 : ∀ x ∈ p0, x.block < W.heap.size := by obtain ⟨m, hm⟩ := k0; exact DataW.trod_lt m _ _ _ hm
  obtain ⟨K1, rfl, l1, b1⟩ := okKey (hval 1 23 v1 rfl rfl)
  have k1 := h1
  have lt1 : ∀ x ∈ p1, x.block < W.heap.size := by obtain ⟨m, hm⟩ := k1; exact DataW.trod_lt m _ _ _ hm
  obtain ⟨K2, rfl, l2, b2⟩ := okNoise (hval 2 36 v2 rfl rfl)
  have k2 := h2
  have lt2 : ∀ x ∈ p2, x.block < W.heap.size := by obtain ⟨m, hm⟩ := k2; exact DataW.trod_lt m _ _ _ hm
  obtain ⟨n3, rfl, rfl, rfl, w3⟩ := open_int Try.underlying5 (hval 3 5 v3 rfl rfl) h3
  obtain ⟨m3, rfl, z3⟩ := nat_u8 w3
  obtain ⟨n4, rfl, rfl, rfl, w4⟩ := open_int Try.underlying5 (hval 4 5 v4 rfl rfl) h4
  obtain ⟨m4, rfl, z4⟩ := nat_u8 w4
  clear hA0 hval0
  refine (walk K0 K1 K2 m3 m4 b0 l0 b1 l1 b2 l2 z3 z4 W).mono fun e W' ⟨he, bel⟩ => ?_
  subst he
  exact ⟨_, rfl, _, _, _, [], _, [], hW', trodAll_mk1 (shut_bool Try.underlying4 _), (trodAll_cons_mk (Below.trod laidOut (by kernel_rfl) (of_decide_eq_true (by kernel_rfl)) k0 bel lt0) (trodAll_cons_mk (Below.trod laidOut (by kernel_rfl) (of_decide_eq_true (by kernel_rfl)) k1 bel lt1) (trodAll_cons_mk (Below.trod laidOut (by kernel_rfl) (of_decide_eq_true (by kernel_rfl)) k2 bel lt2) (trodAll_cons_mk (shut_int Try.underlying5 w3) (trodAll_cons_mk (shut_int Try.underlying5 w4) trodAll_mk0))))), rfl, bel.frame _, fun h => by cases h⟩

theorem over : Rows.shareFitsRow.holds Try.pinned (OpenSpec.ofChange Rows.shareFitsSpec) :=
  OpenClaim.holds_of_wide 7 Try.f7 rfl rfl rfl rfl rfl rfl rfl ⟨rfl, rfl, rfl, rfl, rfl⟩ rfl rfl rfl rfl rfl (by kernel_rfl) Try.func7 (by kernel_rfl)
    (of_decide_eq_true (by kernel_rfl)) (by unfold Func.isWrapper; first | (rw [if_pos (by decide +kernel)]; kernel_rfl) | (rw [if_neg (by decide +kernel)]; exact ⟨rfl, rfl⟩))
    (fun os started H enc _ => lifted os started H enc)

/-- the statement -/
theorem proved : Rows.ShareFitsSaid := over
end Go.Proofs.Ytmnenjgipkopdaa.shareFits
