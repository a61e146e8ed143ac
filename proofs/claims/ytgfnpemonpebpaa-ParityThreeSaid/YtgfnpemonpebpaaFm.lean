/-
  THE WALKS of the field's product and inverse, of the code and of the document's answer: each call returns the number of the plain mathematics and leaves the world as it is, for every two bytes.
-/
import Derived.Test.YtgfnpemonpebpaaProg
import Derived.Test.YtgfnpemonpebpaaGf
import Derived.WalkKit
import Derived.WalkSpells
import Derived.Lib.Hide
import Derived.Below
import Derived.WalkLawsBesides
namespace Go.Proofs.Ytgfnpemonpebpaa
open Go.RowKit

theorem and_bit (x k : Nat) (hx : x < 256) : (bits .and .u8 ((x : Int) / 2 ^ k) 1 == 1) = x.testBit k := by
  have e : ((x : Int) / 2 ^ k) = ((x / 2 ^ k : Nat) : Int) := by simp
  have hl : x / 2 ^ k < 256 := Nat.lt_of_le_of_lt (Nat.div_le_self _ _) hx
  rw [e, show (1 : Int) = ((1 : Nat) : Int) from rfl, u8_and_nat _ _ hl (by omega), Nat.testBit_eq_decide_div_mod_eq, Nat.and_one_is_mod]
  rw [Bool.eq_iff_iff]; simp; omega
theorem and_top (x : Nat) (hx : x < 256) : (bits .and .u8 (x : Int) 128 != 0) = x.testBit 7 := by
  rw [show (128 : Int) = ((128 : Nat) : Int) from rfl, u8_and_nat _ _ hx (by omega)]
  have d : ∀ x, x < 256 → (((x &&& 128 : Nat) : Int) != 0) = x.testBit 7 := by decide +kernel
  exact d x hx
theorem dbl8 (x : Nat) : ((x : Int) * 2 % 256) = ((x * 2 % 256 : Nat) : Int) := by omega
theorem xor8 (x y : Nat) (hx : x < 256) (hy : y < 256) : bits .xor .u8 (x : Int) (y : Int) = ((x ^^^ y : Nat) : Int) := u8_xor_nat x y hx hy
theorem xor29 (x : Nat) : bits .xor .u8 ((x : Int) * 2 % 256) 29 = ((x * 2 % 256 ^^^ 29 : Nat) : Int) := by
  rw [dbl8]; exact u8_xor_nat (x * 2 % 256) 29 (by omega) (by omega)
theorem ret_u8 {a b : Int} (h : a = b) : Ending.returned (.int .u8 a) = .returned (.int .u8 b) := by rw [h]

set_option maxHeartbeats 400000 in
theorem mul_any (A B : Nat) (w : World) (hA : A < 256) (hB : B < 256) :
    Calls Try.prog 25 #[.int .u8 (A : Int), .int .u8 (B : Int)] w fun e w' => e = .returned (.int .u8 (Gf.mul A B : Nat)) ∧ w = w' := by
  go_enter Try.func25, Try.ntmps25
  go_wp2
  go_loop [0, 5, 8] (fun a p i => ∃ k : Nat, k ≤ 8 ∧ i = .int .i64 k ∧ p = .int .u8 (Gf.mp A B k : Nat) ∧ a = .int .u8 (Gf.ma A k : Nat)) (fun _ _ i => 8 - (intOf i).toNat)
  case atStart => exact ⟨0, Nat.zero_le _, rfl, rfl, rfl⟩
  case round =>
    obtain ⟨k, hk, rfl, rfl, rfl⟩ := hrel
    have la := Gf.ma_lt A hA k
    have lp := Gf.mp_lt A B hA k
    by_cases hlt : k < 8
    · have t1 := and_bit B k hB
      have t2 := and_top (Gf.ma A k) la
      have X1 := Lib.hid (xor8 (Gf.mp A B k) (Gf.ma A k) lp la)
      cases hb : B.testBit k <;> cases ha : (Gf.ma A k).testBit 7 <;> rw [hb] at t1 <;> rw [ha] at t2
      all_goals
        have HB := Lib.hid hb
        have HA := Lib.hid ha
        clear hb ha
        go_wp2
        go_round
        case rel => exact ⟨k + 1, by omega, by go_num, by first | rw [Gf.mp_yes HB.out, X1.out] | rw [Gf.mp_no HB.out], by first | rw [Gf.ma, Gf.stepA_yes HA.out, xor29] | rw [Gf.ma, Gf.stepA_no HA.out, dbl8]⟩
        case measure => simp [intOf]; omega
    · obtain rfl : k = 8 := by omega
      go_wp2
      go_ret
      exact ⟨rfl, rfl⟩

theorem and_bit64 (k : Nat) (hk : k < 8) : (bits .and .i64 ((254 : Int) / 2 ^ k) 1 == 1) = (254).testBit k := by
  have d : ∀ k, k < 8 → (bits .and .i64 ((254 : Int) / 2 ^ k) 1 == 1) = (254).testBit k := by decide +kernel
  exact d k hk

set_option maxHeartbeats 400000 in
theorem inv_any (A : Nat) (w : World) (hA : A < 256) :
    Calls Try.prog 34 #[.int .u8 (A : Int)] w fun e w' => e = .returned (.int .u8 (Gf.inv A : Nat)) ∧ w = w' := by
  go_enter Try.func34, Try.ntmps34
  go_wp2
  go_loop [0, 3, 5] (fun a p i => ∃ k : Nat, k ≤ 8 ∧ i = .int .i64 k ∧ p = .int .u8 ((Gf.ip A k).1 : Nat) ∧ a = .int .u8 ((Gf.ip A k).2 : Nat)) (fun _ _ i => 8 - (intOf i).toNat)
  case atStart => exact ⟨0, Nat.zero_le _, rfl, rfl, rfl⟩
  case round =>
    obtain ⟨k, hk, rfl, rfl, rfl⟩ := hrel
    have l1 := (Gf.ip_lt A hA k).1
    have l2 := (Gf.ip_lt A hA k).2
    by_cases hlt : k < 8
    · have t1 := and_bit64 k hlt
      cases hb : (254).testBit k <;> rw [hb] at t1
      all_goals
        have HB := Lib.hid hb
        clear hb
        go_wp2_with (go_at_call 25; refine (mul_any _ _ _ (by omega) (by omega)).mono ?_; rintro e w' ⟨rfl, rfl⟩)
        go_round
        case rel => exact ⟨k + 1, by omega, by go_num, by first | rw [Gf.ip_yes HB.out] | rw [Gf.ip_no HB.out], rfl⟩
        case measure => simp [intOf]; omega
    · obtain rfl : k = 8 := by omega
      go_wp2
      go_ret
      exact ⟨rfl, rfl⟩

theorem and_bit16 (x k : Nat) (hx : x < 65536) : (bits .and .u16 ((x : Int) / 2 ^ k) 1 == 1) = x.testBit k := by
  have e : ((x : Int) / 2 ^ k) = ((x / 2 ^ k : Nat) : Int) := by simp
  have hl : x / 2 ^ k < 65536 := Nat.lt_of_le_of_lt (Nat.div_le_self _ _) hx
  rw [e, show (1 : Int) = ((1 : Nat) : Int) from rfl, u16_and_nat _ _ hl (by omega), Nat.testBit_eq_decide_div_mod_eq, Nat.and_one_is_mod]
  rw [Bool.eq_iff_iff]; simp; omega
theorem shl16 (x y k : Nat) (hx : x < 65536) (hy : y * 2 ^ k < 65536) : bits .xor .u16 (x : Int) (IntKind.u16.wrap ((y : Int) * 2 ^ k)) = ((x ^^^ y * 2 ^ k : Nat) : Int) := by
  have e : (y : Int) * 2 ^ k = ((y * 2 ^ k : Nat) : Int) := by simp
  rw [e, IntKind.wrap_u16, show ((y * 2 ^ k : Nat) : Int) % 65536 = ((y * 2 ^ k : Nat) : Int) from by omega]
  exact u16_xor_nat _ _ hx hy
theorem pow_small (A k : Nat) (hA : A < 256) (hk : k < 8) : A * 2 ^ k < 65536 := by
  calc A * 2 ^ k < 256 * 2 ^ k := Nat.mul_lt_mul_of_pos_right hA (Nat.pow_pos (by omega))
    _ ≤ 256 * 2 ^ 8 := Nat.mul_le_mul_left _ (Nat.pow_le_pow_right (by omega) (by omega))
theorem pow_small2 (k : Nat) : 285 * 2 ^ (6 - k) < 65536 := by
  calc 285 * 2 ^ (6 - k) ≤ 285 * 2 ^ 6 := Nat.mul_le_mul_left _ (Nat.pow_le_pow_right (by omega) (by omega))
    _ < 65536 := by decide

set_option maxHeartbeats 400000 in
theorem rmul_any (A B : Nat) (w : World) (hA : A < 256) (hB : B < 256) :
    Calls Try.prog 29 #[.int .u8 (A : Int), .int .u8 (B : Int)] w fun e w' => e = .returned (.int .u8 (Gf.mul A B : Nat)) ∧ w = w' := by
  go_enter Try.func29, Try.ntmps29
  go_wp2
  go_loop [5, 6] (fun p i => ∃ k : Nat, k ≤ 8 ∧ i = .int .i64 k ∧ p = .int .u16 (Gf.rx A B k : Nat)) (fun _ i => 8 - (intOf i).toNat)
  case atStart => exact ⟨0, Nat.zero_le _, rfl, rfl⟩
  case round =>
    obtain ⟨k, hk, rfl, rfl⟩ := hrel
    have lp := Gf.rx_lt A B hA k hk
    by_cases hlt : k < 8
    · have t1 := and_bit B k hB
      have X := Lib.hid (shl16 (Gf.rx A B k) A k lp (pow_small A k hA hlt))
      cases hb : B.testBit k <;> rw [hb] at t1
      all_goals
        have HB := Lib.hid hb
        clear hb
        go_wp2
        go_round
        case rel => exact ⟨k + 1, by omega, by go_num, by first | rw [Gf.rx_yes HB.out, X.out] | rw [Gf.rx_no HB.out]⟩
        case measure => simp [intOf]; omega
    · obtain rfl : k = 8 := by omega
      have hR := Gf.rmul_eq A B hA hB
      have HR := Lib.hid hR
      clear hR
      go_wp2
      go_loop [5, 7] (fun p i => ∃ k : Nat, k ≤ 7 ∧ i = .int .i64 (14 - (k : Int)) ∧ p = .int .u16 (Gf.rr (Gf.rx A B 8) k : Nat)) (fun _ i => (intOf i + 1).toNat)
      case atStart => exact ⟨0, Nat.zero_le _, by simp, rfl⟩
      case round =>
        obtain ⟨k, hk, rfl, rfl⟩ := hrel
        have lq := Gf.rr_lt (Gf.rx A B 8) lp k
        by_cases hlt : k < 7
        · have t1 := and_bit16 (Gf.rr (Gf.rx A B 8) k) (14 - k) lq
          have X := Lib.hid (shl16 (Gf.rr (Gf.rx A B 8) k) 285 (6 - k) lq (pow_small2 k))
          cases hb : (Gf.rr (Gf.rx A B 8) k).testBit (14 - k) <;> rw [hb] at t1
          all_goals
            have HB := Lib.hid hb
            clear hb
            go_wp2
            go_round
            case rel => exact ⟨k + 1, by omega, by go_num, by first | (rw [Gf.rr_yes HB.out, ← X.out, show 14 - k - 8 = 6 - k from by omega]; rfl) | rw [Gf.rr_no HB.out]⟩
            case measure => simp [intOf]; omega
        · obtain rfl : k = 7 := by omega
          go_wp2
          go_ret
          exact ⟨ret_u8 (by rw [← HR.out]; simp [Gf.rmul]), rfl⟩

set_option maxRecDepth 100000 in
set_option maxHeartbeats 400000 in
theorem rinv_any (A : Nat) (w : World) (hA : A < 256) :
    Calls Try.prog 30 #[.int .u8 (A : Int)] w fun e w' => e = .returned (.int .u8 (Gf.inv A : Nat)) ∧ w = w' := by
  go_enter Try.func30, Try.ntmps30
  go_wp2
  go_loop [3] (fun i => ∃ k : Nat, k ≤ 256 ∧ i = .int .i64 k ∧ ∀ c, c < k → Gf.mul A c ≠ 1) (fun i => 256 - (intOf i).toNat)
  case atStart => exact ⟨0, Nat.zero_le _, rfl, fun c h => by omega⟩
  case round =>
    obtain ⟨k, hk, rfl, hn⟩ := hrel
    have HN := Lib.hid hn
    clear hn
    by_cases hlt : k < 256
    · by_cases h1 : Gf.mul A k = 1
      · have t1 : ((Gf.mul A k : Int) == 1) = true := by simp [h1]
        have H1 := Lib.hid h1
        clear h1
        go_wp2_with (go_at_call 29; refine (rmul_any _ _ _ (by omega) (by omega)).mono ?_; rintro e w' ⟨rfl, rfl⟩)
        go_ret
        exact ⟨by rw [Gf.inv_unique A k hA hlt H1.out]; rfl, rfl⟩
      · have t1 : ((Gf.mul A k : Int) == 1) = false := by rw [beq_eq_false_iff_ne]; omega
        have H1 := Lib.hid h1
        clear h1
        go_wp2_with (go_at_call 29; refine (rmul_any _ _ _ (by omega) (by omega)).mono ?_; rintro e w' ⟨rfl, rfl⟩)
        go_round
        case rel => exact ⟨k + 1, by omega, by go_num, fun c hc => by
          by_cases h : c = k
          · subst h; exact H1.out
          · exact HN.out c (by omega)⟩
        case measure => simp [intOf]; omega
    · have hz : Gf.inv A = 0 := by
        by_cases h0 : A = 0
        · subst h0; exact Gf.inv_zero
        · exact absurd (Gf.mul_inv A hA h0) (HN.out _ (by have := Gf.inv_lt A hA; omega))
      have HZ := Lib.hid hz
      clear hz
      go_wp2
      go_ret
      exact ⟨by rw [HZ.out]; rfl, rfl⟩
end Go.Proofs.Ytgfnpemonpebpaa
