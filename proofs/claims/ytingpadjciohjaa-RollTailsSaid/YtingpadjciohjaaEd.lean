/-
  THE WALK of the code's end: how long the first chunk is.
-/
import Derived.Test.YtingpadjciohjaaTk
namespace Go.Proofs.Ytingpadjciohjaa
open Go.RowKit
set_option linter.unusedVariables false
set_option linter.unusedSimpArgs false
theorem fnd_is {p : Nat → Bool} : ∀ (k n j : Nat), j ≤ k → (∀ i, n ≤ i → i < n + j → p i = false) → (p (n + j) = true ∨ j = k) → Ro.fnd p n k = n + j
  | 0, n, j, h, _, _ => by obtain rfl : j = 0 := by omega
                           rfl
  | k + 1, n, 0, _, _, h => by
    rcases h with h | h
    · rw [Ro.fnd, if_pos (by simpa using h)]; rfl
    · omega
  | k + 1, n, j + 1, h, h1, h2 => by
    rw [Ro.fnd, if_neg (by rw [h1 n (Nat.le_refl _) (by omega)]; simp), fnd_is k (n + 1) j (by omega) (fun i a b => h1 i (by omega) (by omega)) (by
      rcases h2 with h2 | h2
      · left; rw [show n + 1 + j = n + (j + 1) from by omega]; exact h2
      · right; omega)]
    omega
theorem one_hit (c : Ro.Cuts) (hc : c.Fit) (D : List UInt8) (k : Nat) (h1 : c.lo ≤ k + 1) (h2 : k + 1 ≤ min D.length c.hi) (h3 : Ro.cond c D (k + 1) = true) (h4 : ∀ n, c.lo ≤ n → n ≤ k → Ro.cond c D n = false) : Ro.one c D = k + 1 := by
  unfold Ro.one
  split
  · omega
  · rw [fnd_is _ _ (k + 1 - c.lo) (by omega) (fun i a b => h4 i a (by omega)) (.inl (by rw [show c.lo + (k + 1 - c.lo) = k + 1 from by omega]; exact h3))]
    omega
theorem one_none (c : Ro.Cuts) (hc : c.Fit) (D : List UInt8) (h : ∀ n, c.lo ≤ n → n ≤ min D.length c.hi → Ro.cond c D n = false) : Ro.one c D = min D.length c.hi := by
  obtain ⟨a1, a2, a3, a4, a5⟩ := hc
  unfold Ro.one
  split
  · omega
  · rw [fnd_is _ _ (min D.length c.hi - c.lo) (Nat.le_refl _) (fun i a b => h i a (by omega)) (.inr rfl)]
    omega
theorem Cap.below {W V : World} {gs gd gc gp a : Nat} {D : ByteArray} {w lo hi m P : Nat} (h : Cap W gs gd gc gp a D w lo hi m P) (hb : Below W.heap.size W V) : Cap V gs gd gc gp a D w lo hi m P := by
  refine ⟨?_, ?_, h.c.below hb, ?_, h.n1, h.n2, h.n3⟩
  · exact (hb.block gs h.s.lt).trans h.s
  · exact (hb.cell (p := ⟨gd, 0, none⟩) (World.block_lt_of_cell? _ _ h.d)).trans h.d
  · exact (hb.cell (p := ⟨gp, 0, none⟩) (World.block_lt_of_cell? _ _ h.p)).trans h.p
theorem cap_new (W : World) (D : ByteArray) (w lo hi m P : Nat) :
    Cap ((((W.alloc (Obj.cells #[.string D] 9)).alloc (Obj.cells (cc w lo hi m) 24)).alloc (Obj.cells #[.int .u32 (P : Nat)] 22)).alloc (Obj.cells #[.int .u32 0] 22)) (W.heap.size + 1 + 1 + 1) W.heap.size (W.heap.size + 1) (W.heap.size + 1 + 1) 0 D w lo hi m P := by
  have h1 := Nm.own1 W (.string D) 9
  have h2 := at_new (W.alloc (Obj.cells #[.string D] 9)) w lo hi m 24
  have h3 := Nm.own1 ((W.alloc (Obj.cells #[.string D] 9)).alloc (Obj.cells (cc w lo hi m) 24)) (.int .u32 (P : Nat)) 22
  have h4 := Nm.Own.new (((W.alloc (Obj.cells #[.string D] 9)).alloc (Obj.cells (cc w lo hi m) 24)).alloc (Obj.cells #[.int .u32 (P : Nat)] 22)) 22 #[.int .u32 0]
  have b2 := grow (W.alloc (Obj.cells #[.string D] 9)) (Obj.cells (cc w lo hi m) 24)
  have b3 := grow ((W.alloc (Obj.cells #[.string D] 9)).alloc (Obj.cells (cc w lo hi m) 24)) (Obj.cells #[.int .u32 (P : Nat)] 22)
  have b4 := grow (((W.alloc (Obj.cells #[.string D] 9)).alloc (Obj.cells (cc w lo hi m) 24)).alloc (Obj.cells #[.int .u32 (P : Nat)] 22)) (Obj.cells #[.int .u32 0] 22)
  have c12 := b2.trans ((b3.trans (b4.mono b3.size)).mono b2.size)
  refine ⟨?_, ?_, ?_, ?_, by omega, by omega, by omega⟩
  · simpa using h4
  · exact (c12.cell (p := ⟨W.heap.size, 0, none⟩) (by simp)).trans h1
  · have := h2.below ((b3.trans (b4.mono b3.size)))
    simpa using this
  · have := (b4.cell (p := ⟨((W.alloc (Obj.cells #[.string D] 9)).alloc (Obj.cells (cc w lo hi m) 24)).heap.size, 0, none⟩) (by simp)).trans h3
    simpa using this
set_option maxRecDepth 100000 in
set_option maxHeartbeats 2000000 in
theorem end_any (D : ByteArray) (c : Ro.Cuts) (hc : c.Fit) (hm : c.mask < 4294967296) (hD : D.size ≤ 9223372036854775807) (W : World) :
    Calls Try.prog 18 #[.string D, .agg (cc c.w c.lo c.hi c.mask), .int .u32 (Ro.pw c.w : Nat)] W fun e W' => e = .returned (.int .i64 (Ro.one c D.data.toList : Nat)) ∧ Below W.heap.size W W' := by
  obtain ⟨w, lo, hi, m⟩ := c
  have hfit := hc
  obtain ⟨a1, a2, a3, a4, a5⟩ := hc
  simp only at *
  have cp := cap_new W D w lo hi m (Ro.pw w)
  have bW : Below W.heap.size W ((((W.alloc (Obj.cells #[.string D] 9)).alloc (Obj.cells (cc w lo hi m) 24)).alloc (Obj.cells #[.int .u32 (Ro.pw w : Nat)] 22)).alloc (Obj.cells #[.int .u32 0] 22)) :=
    ((((Below.refl _ W).alloc (Nat.le_refl _) _).alloc (by simp) _).alloc (by simp; omega) _).alloc (by simp; omega) _
  have hP := Ro.pw_lt w
  by_cases hmin : hi < D.size
  · have HM : Hid (hi = min D.size hi) := Lib.hid (by omega)
    have m1 : hi ≤ D.size := by omega
    obtain ⟨q0, q1, q2, q3⟩ := id cp.c
    go_enter Try.func18, Try.ntmps18
    go_wp2_with fail
    clear q0 q1 q2 q3
    have cp0 : Cap ((((W.alloc (Obj.cells #[.string D] 9)).alloc (Obj.cells (cc w lo hi m) 24)).alloc (Obj.cells #[.int .u32 (Ro.pw w : Nat)] 22)).alloc (Obj.cells #[.int .u32 0] 22)) (W.heap.size + 1 + 1 + 1) W.heap.size (W.heap.size + 1) (W.heap.size + 1 + 1) (Ro.S (Ro.win D.data.toList w 0)) D w lo hi m (Ro.pw w) := by rw [Ro.win_first _ _ _ (Nat.zero_le _)]; exact cp
    have CP := Lib.hid cp0
    have BW := Lib.hid bW
    clear cp cp0 bW
    go_loopw [18] (fun i wr => ∃ k : Nat, k ≤ hi ∧ i = .int .i64 k ∧ Cap wr (W.heap.size + 1 + 1 + 1) W.heap.size (W.heap.size + 1) (W.heap.size + 1 + 1) (Ro.S (Ro.win D.data.toList w k)) D w lo hi m (Ro.pw w) ∧ Below W.heap.size W wr ∧ ∀ n, lo ≤ n → n ≤ k → Ro.cond ⟨w, lo, hi, m⟩ D.data.toList n = false) (fun i _ => hi - (intOf i).toNat)
    case atStart => exact ⟨0, Nat.zero_le _, rfl, CP.out, BW.out, fun n h1 h2 => by omega⟩
    case round =>
      obtain ⟨k, hk, rfl, hcap, hbel, hno⟩ := hrel
      clear CP BW
      have HNO := Lib.hid hno
      clear hno
      by_cases hlt : k < hi
      · have l0 : (k : Int) < (hi : Int) := by omega
        have hS := Ro.S_lt (Ro.win D.data.toList w k)
        have ht := take_any _ _ _ _ _ D w lo hi m (Ro.pw w) k wr hcap (by omega) hD hS hP a1
        rw [roll_next D w k (by omega) a1] at ht
        have hS' := Ro.S_lt (Ro.win D.data.toList w (k + 1))
        have HC : Hid (Ro.cond ⟨w, lo, hi, m⟩ D.data.toList (k + 1) = (Ro.S (Ro.win D.data.toList w (k + 1)) &&& m == m)) := Lib.hid rfl
        have eA := u32_and_nat (Ro.S (Ro.win D.data.toList w (k + 1))) m hS' hm
        obtain ⟨s1, hs1⟩ : ∃ s1, s1 = Ro.S (Ro.win D.data.toList w (k + 1)) := ⟨_, rfl⟩
        rw [← hs1] at ht hS' HC eA
        have HS1 := Lib.hid hs1
        clear hs1
        obtain ⟨x, hx⟩ : ∃ x, x = s1 &&& m := ⟨_, rfl⟩
        rw [← hx] at eA HC
        clear hx hS
        go_wp2_with fail
        refine ht.mono ?_
        rintro e w1 ⟨rfl, hcap1, honly⟩
        have hbel1 := hbel.trans (honly.below (by omega))
        clear hcap hbel honly ht
        obtain ⟨c0, c1, c2, c3⟩ := id hcap1.c
        have s0 := hcap1.s.cell 0
        simp at s0
        by_cases hlo : lo ≤ k + 1
        · have d1 : (lo : Int) ≤ (k : Int) + 1 := by omega
          by_cases hx : x = m
          · have t1 : ((x : Int) == (m : Int)) = true := by rw [hx]; simp
            have HE : Hid (Ro.one ⟨w, lo, hi, m⟩ D.data.toList = k + 1) := Lib.hid (one_hit ⟨w, lo, hi, m⟩ hfit D.data.toList k hlo (by have := HM.out; simp; omega) (by rw [HC.out, hx]; simp) HNO.out)
            clear hx
            go_wp2_with fail
            go_ret
            exact ⟨ret_int (by rw [HE.out]; omega), hbel1⟩
          · have t1 : ((x : Int) == (m : Int)) = false := by rw [beq_eq_false_iff_ne]; omega
            have hno2 : ∀ n, lo ≤ n → n ≤ k + 1 → Ro.cond ⟨w, lo, hi, m⟩ D.data.toList n = false := fun n h1 h2 => by
              rcases Nat.lt_or_ge n (k + 1) with h3 | h3
              · exact HNO.out n h1 (by omega)
              · obtain rfl : n = k + 1 := by omega
                rw [HC.out, beq_eq_false_iff_ne]; exact hx
            have HN2 := Lib.hid hno2
            have CP1 := Lib.hid hcap1
            clear hx hno2 hcap1
            go_wp2_with fail
            go_roundw
            case rel => exact ⟨k + 1, by omega, by go_num, by rw [← HS1.out]; exact CP1.out, hbel1, HN2.out⟩
            case measure => simp [intOf]; omega
        · have d1 : decide ((lo : Int) ≤ (k : Int) + 1) = false := by rw [decide_eq_false_iff_not]; omega
          have CP1 := Lib.hid hcap1
          clear hcap1
          go_wp2_with fail
          go_roundw
          case rel => exact ⟨k + 1, by omega, by go_num, by rw [← HS1.out]; exact CP1.out, hbel1, fun n h1 h2 => by omega⟩
          case measure => simp [intOf]; omega
      · obtain rfl : hi = k := by omega
        have HE : Hid (Ro.one ⟨w, lo, hi, m⟩ D.data.toList = hi) := Lib.hid (by
          have := one_none ⟨w, lo, hi, m⟩ hfit D.data.toList (fun n h1 h2 => HNO.out n h1 (by have := HM.out; simp at h2; omega))
          rw [this]; have := HM.out; simp; omega)
        go_wp2_with fail
        go_ret
        exact ⟨ret_int (by rw [HE.out]), hbel⟩
  · have HM : Hid (D.size = min D.size hi) := Lib.hid (by omega)
    have m1 : D.size ≤ D.size := by omega
    obtain ⟨q0, q1, q2, q3⟩ := id cp.c
    go_enter Try.func18, Try.ntmps18
    go_wp2_with fail
    clear q0 q1 q2 q3
    have cp0 : Cap ((((W.alloc (Obj.cells #[.string D] 9)).alloc (Obj.cells (cc w lo hi m) 24)).alloc (Obj.cells #[.int .u32 (Ro.pw w : Nat)] 22)).alloc (Obj.cells #[.int .u32 0] 22)) (W.heap.size + 1 + 1 + 1) W.heap.size (W.heap.size + 1) (W.heap.size + 1 + 1) (Ro.S (Ro.win D.data.toList w 0)) D w lo hi m (Ro.pw w) := by rw [Ro.win_first _ _ _ (Nat.zero_le _)]; exact cp
    have CP := Lib.hid cp0
    have BW := Lib.hid bW
    clear cp cp0 bW
    go_loopw [18] (fun i wr => ∃ k : Nat, k ≤ D.size ∧ i = .int .i64 k ∧ Cap wr (W.heap.size + 1 + 1 + 1) W.heap.size (W.heap.size + 1) (W.heap.size + 1 + 1) (Ro.S (Ro.win D.data.toList w k)) D w lo hi m (Ro.pw w) ∧ Below W.heap.size W wr ∧ ∀ n, lo ≤ n → n ≤ k → Ro.cond ⟨w, lo, hi, m⟩ D.data.toList n = false) (fun i _ => D.size - (intOf i).toNat)
    case atStart => exact ⟨0, Nat.zero_le _, rfl, CP.out, BW.out, fun n h1 h2 => by omega⟩
    case round =>
      obtain ⟨k, hk, rfl, hcap, hbel, hno⟩ := hrel
      clear CP BW
      have HNO := Lib.hid hno
      clear hno
      by_cases hlt : k < D.size
      · have l0 : (k : Int) < (D.size : Int) := by omega
        have hS := Ro.S_lt (Ro.win D.data.toList w k)
        have ht := take_any _ _ _ _ _ D w lo hi m (Ro.pw w) k wr hcap (by omega) hD hS hP a1
        rw [roll_next D w k (by omega) a1] at ht
        have hS' := Ro.S_lt (Ro.win D.data.toList w (k + 1))
        have HC : Hid (Ro.cond ⟨w, lo, hi, m⟩ D.data.toList (k + 1) = (Ro.S (Ro.win D.data.toList w (k + 1)) &&& m == m)) := Lib.hid rfl
        have eA := u32_and_nat (Ro.S (Ro.win D.data.toList w (k + 1))) m hS' hm
        obtain ⟨s1, hs1⟩ : ∃ s1, s1 = Ro.S (Ro.win D.data.toList w (k + 1)) := ⟨_, rfl⟩
        rw [← hs1] at ht hS' HC eA
        have HS1 := Lib.hid hs1
        clear hs1
        obtain ⟨x, hx⟩ : ∃ x, x = s1 &&& m := ⟨_, rfl⟩
        rw [← hx] at eA HC
        clear hx hS
        go_wp2_with fail
        refine ht.mono ?_
        rintro e w1 ⟨rfl, hcap1, honly⟩
        have hbel1 := hbel.trans (honly.below (by omega))
        clear hcap hbel honly ht
        obtain ⟨c0, c1, c2, c3⟩ := id hcap1.c
        have s0 := hcap1.s.cell 0
        simp at s0
        by_cases hlo : lo ≤ k + 1
        · have d1 : (lo : Int) ≤ (k : Int) + 1 := by omega
          by_cases hx : x = m
          · have t1 : ((x : Int) == (m : Int)) = true := by rw [hx]; simp
            have HE : Hid (Ro.one ⟨w, lo, hi, m⟩ D.data.toList = k + 1) := Lib.hid (one_hit ⟨w, lo, hi, m⟩ hfit D.data.toList k hlo (by have := HM.out; simp; omega) (by rw [HC.out, hx]; simp) HNO.out)
            clear hx
            go_wp2_with fail
            go_ret
            exact ⟨ret_int (by rw [HE.out]; omega), hbel1⟩
          · have t1 : ((x : Int) == (m : Int)) = false := by rw [beq_eq_false_iff_ne]; omega
            have hno2 : ∀ n, lo ≤ n → n ≤ k + 1 → Ro.cond ⟨w, lo, hi, m⟩ D.data.toList n = false := fun n h1 h2 => by
              rcases Nat.lt_or_ge n (k + 1) with h3 | h3
              · exact HNO.out n h1 (by omega)
              · obtain rfl : n = k + 1 := by omega
                rw [HC.out, beq_eq_false_iff_ne]; exact hx
            have HN2 := Lib.hid hno2
            have CP1 := Lib.hid hcap1
            clear hx hno2 hcap1
            go_wp2_with fail
            go_roundw
            case rel => exact ⟨k + 1, by omega, by go_num, by rw [← HS1.out]; exact CP1.out, hbel1, HN2.out⟩
            case measure => simp [intOf]; omega
        · have d1 : decide ((lo : Int) ≤ (k : Int) + 1) = false := by rw [decide_eq_false_iff_not]; omega
          have CP1 := Lib.hid hcap1
          clear hcap1
          go_wp2_with fail
          go_roundw
          case rel => exact ⟨k + 1, by omega, by go_num, by rw [← HS1.out]; exact CP1.out, hbel1, fun n h1 h2 => by omega⟩
          case measure => simp [intOf]; omega
      · obtain rfl : D.size = k := by omega
        have HE : Hid (Ro.one ⟨w, lo, hi, m⟩ D.data.toList = D.size) := Lib.hid (by
          have := one_none ⟨w, lo, hi, m⟩ hfit D.data.toList (fun n h1 h2 => HNO.out n h1 (by have := HM.out; simp at h2; omega))
          rw [this]; have := HM.out; simp; omega)
        go_wp2_with fail
        go_ret
        exact ⟨ret_int (by rw [HE.out]), hbel⟩
end Go.Proofs.Ytingpadjciohjaa
