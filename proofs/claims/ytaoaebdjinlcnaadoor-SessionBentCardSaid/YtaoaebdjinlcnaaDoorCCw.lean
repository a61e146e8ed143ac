/-
  THE WALKS of the small functions: a word turned, added, made exclusive, made of four bytes.
-/
import Derived.Test.YtaoaebdjinlcnaaDoorProg
import Derived.Test.YtaoaebdjinlcnaaDoorCCm
import Derived.WalkKit
import Derived.WalkSpells
import Derived.Lib.Hide
import Derived.Below
import Derived.OwnWalk
import Derived.WalkLawsBesides
import Derived.Deep.QuietTactic
import Derived.BigQuiet
import Derived.Deep.Draws
import Derived.Laws.BitsAllLaws
set_option linter.unusedVariables false
set_option linter.unusedSimpArgs false
set_option maxRecDepth 100000
namespace Go.Proofs.YtaoaebdjinlcnaaDoor.Ci
open Go.RowKit
theorem rot16_any (x : Nat) (w : World) (hx : x < 4294967296) : Calls Tryd.prog 91 #[.int .u32 x, .int .i64 16] w fun e w' => e = .returned (.int .u32 (Ch.rot x 16 : Nat)) ∧ w = w' := by
  have hm : bits .and .u64 16 31 = 16 := by decide
  have ho : bits .or .u32 ((x : Int) * 65536 % 4294967296) ((x : Int) / 65536) = (Ch.rot x 16 : Nat) := by
    have := u32_or_nat (x * 65536 % 4294967296) (x / 65536) (Nat.mod_lt _ (by decide)) (Nat.lt_of_le_of_lt (Nat.div_le_self _ _) hx)
    rw [← Ch.rot_or x 16 hx (by decide)]
    exact this
  go_enter Tryd.func91, Tryd.ntmps91
  go_wp2
  go_ret
  exact ⟨rfl, rfl⟩
theorem rot12_any (x : Nat) (w : World) (hx : x < 4294967296) : Calls Tryd.prog 91 #[.int .u32 x, .int .i64 12] w fun e w' => e = .returned (.int .u32 (Ch.rot x 12 : Nat)) ∧ w = w' := by
  have hm : bits .and .u64 12 31 = 12 := by decide
  have ho : bits .or .u32 ((x : Int) * 4096 % 4294967296) ((x : Int) / 1048576) = (Ch.rot x 12 : Nat) := by
    have := u32_or_nat (x * 4096 % 4294967296) (x / 1048576) (Nat.mod_lt _ (by decide)) (Nat.lt_of_le_of_lt (Nat.div_le_self _ _) hx)
    rw [← Ch.rot_or x 12 hx (by decide)]
    exact this
  go_enter Tryd.func91, Tryd.ntmps91
  go_wp2
  go_ret
  exact ⟨rfl, rfl⟩
theorem rot8_any (x : Nat) (w : World) (hx : x < 4294967296) : Calls Tryd.prog 91 #[.int .u32 x, .int .i64 8] w fun e w' => e = .returned (.int .u32 (Ch.rot x 8 : Nat)) ∧ w = w' := by
  have hm : bits .and .u64 8 31 = 8 := by decide
  have ho : bits .or .u32 ((x : Int) * 256 % 4294967296) ((x : Int) / 16777216) = (Ch.rot x 8 : Nat) := by
    have := u32_or_nat (x * 256 % 4294967296) (x / 16777216) (Nat.mod_lt _ (by decide)) (Nat.lt_of_le_of_lt (Nat.div_le_self _ _) hx)
    rw [← Ch.rot_or x 8 hx (by decide)]
    exact this
  go_enter Tryd.func91, Tryd.ntmps91
  go_wp2
  go_ret
  exact ⟨rfl, rfl⟩
theorem rot7_any (x : Nat) (w : World) (hx : x < 4294967296) : Calls Tryd.prog 91 #[.int .u32 x, .int .i64 7] w fun e w' => e = .returned (.int .u32 (Ch.rot x 7 : Nat)) ∧ w = w' := by
  have hm : bits .and .u64 7 31 = 7 := by decide
  have ho : bits .or .u32 ((x : Int) * 128 % 4294967296) ((x : Int) / 33554432) = (Ch.rot x 7 : Nat) := by
    have := u32_or_nat (x * 128 % 4294967296) (x / 33554432) (Nat.mod_lt _ (by decide)) (Nat.lt_of_le_of_lt (Nat.div_le_self _ _) hx)
    rw [← Ch.rot_or x 7 hx (by decide)]
    exact this
  go_enter Tryd.func91, Tryd.ntmps91
  go_wp2
  go_ret
  exact ⟨rfl, rfl⟩
theorem add_any (a b : Nat) (w : World) (ha : a < 4294967296) (hb : b < 4294967296) : Calls Tryd.prog 80 #[.int .u64 a, .int .u64 b] w fun e w' => e = .returned (.int .u64 (Ch.add a b : Nat)) ∧ w = w' := by
  go_enter Tryd.func80, Tryd.ntmps80
  go_wp2
  go_ret
  exact ⟨rfl, rfl⟩
theorem cword_any (a b c d : Nat) (w : World) (ha : a < 256) (hb : b < 256) (hc : c < 256) (hd : d < 256) :
    Calls Tryd.prog 98 #[.int .u8 a, .int .u8 b, .int .u8 c, .int .u8 d] w fun e w' => e = .returned (.int .u32 (a + 256 * b + 65536 * c + 16777216 * d : Nat)) ∧ w = w' := by
  have h1 : bits .or .u32 (a : Int) ((b : Int) * 256) = ((a ||| b * 256 : Nat) : Int) := u32_or_nat a (b * 256) (by omega) (by omega)
  have l1 : a ||| b * 256 < 65536 := Nat.or_lt_two_pow (n := 16) (by omega) (by omega)
  have h2 : bits .or .u32 ((a ||| b * 256 : Nat) : Int) ((c : Int) * 65536) = (((a ||| b * 256) ||| c * 65536 : Nat) : Int) := u32_or_nat _ (c * 65536) (by omega) (by omega)
  have l2 : (a ||| b * 256) ||| c * 65536 < 16777216 := Nat.or_lt_two_pow (n := 24) (by omega) (by omega)
  have h3 : bits .or .u32 (((a ||| b * 256) ||| c * 65536 : Nat) : Int) ((d : Int) * 16777216) = ((((a ||| b * 256) ||| c * 65536) ||| d * 16777216 : Nat) : Int) := u32_or_nat _ (d * 16777216) (by omega) (by omega)
  rw [Ch.word_or a b c d ha hb hc] at h3
  clear l1 l2
  go_enter Tryd.func98, Tryd.ntmps98
  go_wp2
  go_ret
  exact ⟨rfl, rfl⟩
theorem turn_any (x k : Nat) (w : World) (hx : x < 4294967296) (hk : k ≤ 65536) : Calls Tryd.prog 99 #[.int .u64 x, .int .u64 k] w fun e w' => e = .returned (.int .u64 (x * k % 4294967296 + x * k / 4294967296 : Nat)) ∧ w = w' := by
  have hb : x * k ≤ 4294967295 * 65536 := Nat.mul_le_mul (by omega) hk
  generalize hp : x * k = p at *
  have hq : (x : Int) * (k : Int) = (p : Int) := by rw [← hp]; rfl
  go_enter Tryd.func99, Tryd.ntmps99
  go_wp2
  go_ret
  exact ⟨rfl, rfl⟩
/-- the exclusive or of the lower bits of two numbers -/
theorem xor_step (a b i : Nat) : (a ^^^ b) % 2 ^ (i + 1) = (a ^^^ b) % 2 ^ i + (if a / 2 ^ i % 2 = b / 2 ^ i % 2 then 0 else 2 ^ i) := by
  rw [Nat.mod_pow_succ]
  congr 1
  have h : (a ^^^ b) / 2 ^ i % 2 = (a / 2 ^ i % 2) ^^^ (b / 2 ^ i % 2) := by
    rw [Nat.xor_div_two_pow]
    exact Nat.xor_mod_two_pow (n := 1)
  rw [h]
  have h1 := Nat.mod_two_eq_zero_or_one (a / 2 ^ i)
  have h2 := Nat.mod_two_eq_zero_or_one (b / 2 ^ i)
  rcases h1 with h1 | h1 <;> rcases h2 with h2 | h2 <;> rw [h1, h2] <;> simp
set_option maxHeartbeats 400000 in
theorem xor_any (a b : Nat) (w : World) (ha : a < 4294967296) (hb : b < 4294967296) : Calls Tryd.prog 70 #[.int .u64 a, .int .u64 b] w fun e w' => e = .returned (.int .u64 (a ^^^ b : Nat)) ∧ w = w' := by
  have hx : (a ^^^ b) % 2 ^ 32 = a ^^^ b := Nat.mod_eq_of_lt (Nat.xor_lt_two_pow (n := 32) ha hb)
  go_enter Tryd.func70, Tryd.ntmps70
  go_wp2
  go_loop [0, 1, 5, 6, 7] (fun x y o u i => ∃ k : Nat, k ≤ 32 ∧ i = .int .i64 k ∧ x = .int .u64 (a / 2 ^ k : Nat) ∧ y = .int .u64 (b / 2 ^ k : Nat) ∧ o = .int .u64 ((a ^^^ b) % 2 ^ k : Nat) ∧ u = .int .u64 (2 ^ k : Nat)) (fun _ _ _ _ i => 32 - (intOf i).toNat)
  case atStart => exact ⟨0, by omega, rfl, by simp, by simp, by simp [Nat.mod_one], rfl⟩
  case round =>
    obtain ⟨k, hk, rfl, rfl, rfl, rfl, rfl⟩ := hrel
    by_cases hlt : k < 32
    · have st := xor_step a b k
      have bo := Nat.mod_lt (a ^^^ b) (Nat.pow_pos (n := k + 1) (by decide : 0 < 2))
      have bo2 := Nat.mod_lt (a ^^^ b) (Nat.pow_pos (n := k) (by decide : 0 < 2))
      have p1 : 2 ^ k ≤ 2147483648 := Nat.pow_le_pow_right (by decide) (by omega : k ≤ 31)
      have p2 : 2 ^ (k + 1) = 2 ^ k * 2 := Nat.pow_succ ..
      have d1 : a / 2 ^ (k + 1) = a / 2 ^ k / 2 := by rw [p2, Nat.div_div_eq_div_mul]
      have d2 : b / 2 ^ (k + 1) = b / 2 ^ k / 2 := by rw [p2, Nat.div_div_eq_div_mul]
      have a1 : a / 2 ^ k < 4294967296 := Nat.lt_of_le_of_lt (Nat.div_le_self _ _) ha
      have b1 : b / 2 ^ k < 4294967296 := Nat.lt_of_le_of_lt (Nat.div_le_self _ _) hb
      have ST := Lib.hid (And.intro st (And.intro d1 (And.intro d2 p2)))
      clear st d1 d2 p2
      generalize a / 2 ^ k = A at *
      generalize b / 2 ^ k = B at *
      generalize (a ^^^ b) % 2 ^ k = X at *
      generalize 2 ^ k = U at *
      by_cases hq : A % 2 = B % 2
      · have e := ST.out
        rw [if_pos hq] at e
        have E := Lib.hid e
        clear e ST
        go_wp2
        go_round
        case rel => exact ⟨k + 1, by omega, by go_num, by rw [E.out.2.1]; rfl, by rw [E.out.2.2.1]; rfl, by rw [E.out.1]; rfl, by rw [E.out.2.2.2]; congr 1; omega⟩
        case measure => simp [intOf]; omega
      · have e := ST.out
        rw [if_neg hq] at e
        have E := Lib.hid e
        clear e ST
        have hq2 : ((A : Int) % 2 == (B : Int) % 2) = false := by rw [beq_eq_false_iff_ne]; omega
        go_wp2
        go_round
        case rel => exact ⟨k + 1, by omega, by go_num, by rw [E.out.2.1]; rfl, by rw [E.out.2.2.1]; rfl, by rw [E.out.1]; rfl, by rw [E.out.2.2.2]; congr 1; omega⟩
        case measure => simp [intOf]; omega
    · obtain rfl : k = 32 := by omega
      rw [hx]
      go_wp2
      go_ret
      exact ⟨rfl, rfl⟩
end Go.Proofs.YtaoaebdjinlcnaaDoor.Ci
