/-
  THE WALKS of the small functions: a word turned, added, made exclusive, made of four bytes.
-/
import Derived.Test.YtoggibooinhomaaDoorProg
import Derived.Test.YtoggibooinhomaaDoorCCm
import Derived.WalkKit
import Derived.WalkSpells
import Derived.Lib.Hide
import Derived.Below
import Derived.OwnWalk
import Derived.WalkLawsBesides
import Derived.Deep.QuietTactic
import Derived.BigQuiet
import Derived.Deep.Draws
import Derived.Laws.BitsAllLaws
namespace Go.Proofs.YtoggibooinhomaaDoor.Ci
set_option linter.unusedVariables false
set_option linter.unusedSimpArgs false
open Go.RowKit
theorem rot16_any (x : Nat) (w : World) (hx : x < 4294967296) : Calls Tryd.prog 39 #[.int .u32 x, .int .i64 16] w fun e w' => e = .returned (.int .u32 (Ch.rot x 16 : Nat)) ∧ w = w' := by
  have hm : bits .and .u64 16 31 = 16 := by decide
  have ho : bits .or .u32 ((x : Int) * 65536 % 4294967296) ((x : Int) / 65536) = (Ch.rot x 16 : Nat) := by
    have := u32_or_nat (x * 65536 % 4294967296) (x / 65536) (Nat.mod_lt _ (by decide)) (Nat.lt_of_le_of_lt (Nat.div_le_self _ _) hx)
    rw [← Ch.rot_or x 16 hx (by decide)]
    exact this
  go_enter Tryd.func39, Tryd.ntmps39
  go_wp2
  go_ret
  exact ⟨rfl, rfl⟩
theorem rot12_any (x : Nat) (w : World) (hx : x < 4294967296) : Calls Tryd.prog 39 #[.int .u32 x, .int .i64 12] w fun e w' => e = .returned (.int .u32 (Ch.rot x 12 : Nat)) ∧ w = w' := by
  have hm : bits .and .u64 12 31 = 12 := by decide
  have ho : bits .or .u32 ((x : Int) * 4096 % 4294967296) ((x : Int) / 1048576) = (Ch.rot x 12 : Nat) := by
    have := u32_or_nat (x * 4096 % 4294967296) (x / 1048576) (Nat.mod_lt _ (by decide)) (Nat.lt_of_le_of_lt (Nat.div_le_self _ _) hx)
    rw [← Ch.rot_or x 12 hx (by decide)]
    exact this
  go_enter Tryd.func39, Tryd.ntmps39
  go_wp2
  go_ret
  exact ⟨rfl, rfl⟩
theorem rot8_any (x : Nat) (w : World) (hx : x < 4294967296) : Calls Tryd.prog 39 #[.int .u32 x, .int .i64 8] w fun e w' => e = .returned (.int .u32 (Ch.rot x 8 : Nat)) ∧ w = w' := by
  have hm : bits .and .u64 8 31 = 8 := by decide
  have ho : bits .or .u32 ((x : Int) * 256 % 4294967296) ((x : Int) / 16777216) = (Ch.rot x 8 : Nat) := by
    have := u32_or_nat (x * 256 % 4294967296) (x / 16777216) (Nat.mod_lt _ (by decide)) (Nat.lt_of_le_of_lt (Nat.div_le_self _ _) hx)
    rw [← Ch.rot_or x 8 hx (by decide)]
    exact this
  go_enter Tryd.func39, Tryd.ntmps39
  go_wp2
  go_ret
  exact ⟨rfl, rfl⟩
theorem rot7_any (x : Nat) (w : World) (hx : x < 4294967296) : Calls Tryd.prog 39 #[.int .u32 x, .int .i64 7] w fun e w' => e = .returned (.int .u32 (Ch.rot x 7 : Nat)) ∧ w = w' := by
  have hm : bits .and .u64 7 31 = 7 := by decide
  have ho : bits .or .u32 ((x : Int) * 128 % 4294967296) ((x : Int) / 33554432) = (Ch.rot x 7 : Nat) := by
    have := u32_or_nat (x * 128 % 4294967296) (x / 33554432) (Nat.mod_lt _ (by decide)) (Nat.lt_of_le_of_lt (Nat.div_le_self _ _) hx)
    rw [← Ch.rot_or x 7 hx (by decide)]
    exact this
  go_enter Tryd.func39, Tryd.ntmps39
  go_wp2
  go_ret
  exact ⟨rfl, rfl⟩
theorem cword_any (a b c d : Nat) (w : World) (ha : a < 256) (hb : b < 256) (hc : c < 256) (hd : d < 256) :
    Calls Tryd.prog 46 #[.int .u8 a, .int .u8 b, .int .u8 c, .int .u8 d] w fun e w' => e = .returned (.int .u32 (a + 256 * b + 65536 * c + 16777216 * d : Nat)) ∧ w = w' := by
  have h1 : bits .or .u32 (a : Int) ((b : Int) * 256) = ((a ||| b * 256 : Nat) : Int) := u32_or_nat a (b * 256) (by omega) (by omega)
  have l1 : a ||| b * 256 < 65536 := Nat.or_lt_two_pow (n := 16) (by omega) (by omega)
  have h2 : bits .or .u32 ((a ||| b * 256 : Nat) : Int) ((c : Int) * 65536) = (((a ||| b * 256) ||| c * 65536 : Nat) : Int) := u32_or_nat _ (c * 65536) (by omega) (by omega)
  have l2 : (a ||| b * 256) ||| c * 65536 < 16777216 := Nat.or_lt_two_pow (n := 24) (by omega) (by omega)
  have h3 : bits .or .u32 (((a ||| b * 256) ||| c * 65536 : Nat) : Int) ((d : Int) * 16777216) = ((((a ||| b * 256) ||| c * 65536) ||| d * 16777216 : Nat) : Int) := u32_or_nat _ (d * 16777216) (by omega) (by omega)
  rw [Ch.word_or a b c d ha hb hc] at h3
  clear l1 l2
  go_enter Tryd.func46, Tryd.ntmps46
  go_wp2
  go_ret
  exact ⟨rfl, rfl⟩
/-- the exclusive or of the lower bits of two numbers -/
theorem xor_step (a b i : Nat) : (a ^^^ b) % 2 ^ (i + 1) = (a ^^^ b) % 2 ^ i + (if a / 2 ^ i % 2 = b / 2 ^ i % 2 then 0 else 2 ^ i) := by
  rw [Nat.mod_pow_succ]
  congr 1
  have h : (a ^^^ b) / 2 ^ i % 2 = (a / 2 ^ i % 2) ^^^ (b / 2 ^ i % 2) := by
    rw [Nat.xor_div_two_pow]
    exact Nat.xor_mod_two_pow (n := 1)
  rw [h]
  have h1 := Nat.mod_two_eq_zero_or_one (a / 2 ^ i)
  have h2 := Nat.mod_two_eq_zero_or_one (b / 2 ^ i)
  rcases h1 with h1 | h1 <;> rcases h2 with h2 | h2 <;> rw [h1, h2] <;> simp
end Go.Proofs.YtoggibooinhomaaDoor.Ci
