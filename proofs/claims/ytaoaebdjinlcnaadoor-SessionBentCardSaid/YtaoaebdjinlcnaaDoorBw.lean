/-
  THE WALKS of the small functions: a word turned, four numbers mixed.
-/
import Derived.Test.YtaoaebdjinlcnaaDoorProg
import Derived.Test.YtaoaebdjinlcnaaDoorBm
import Derived.WalkKit
import Derived.WalkSpells
import Derived.Lib.Hide
import Derived.Below
import Derived.OwnWalk
import Derived.WalkLawsBesides
import Derived.Deep.QuietTactic
import Derived.BigQuiet
import Derived.Deep.Draws
import Derived.Laws.BitsAllLaws
set_option linter.unusedVariables false
set_option linter.unusedSimpArgs false
set_option maxRecDepth 100000
namespace Go.Proofs.YtaoaebdjinlcnaaDoor
open Go.RowKit
theorem rot16_any (x : Nat) (w : World) (hx : x < 4294967296) : Calls Tryd.prog 91 #[.int .u32 x, .int .i64 16] w fun e w' => e = .returned (.int .u32 (Bl.rot x 16 : Nat)) ∧ w = w' := by
  have hu : IntKind.u64.wrap 16 = 16 := by decide
  have hm : bits .and .u64 16 31 = 16 := by decide
  have ho : bits .or .u32 ((x : Int) * 65536 % 4294967296) ((x : Int) / 65536) = (Bl.rot x 16 : Nat) := by
    have := u32_or_nat (x * 65536 % 4294967296) (x / 65536) (Nat.mod_lt _ (by decide)) (Nat.lt_of_le_of_lt (Nat.div_le_self _ _) hx)
    rw [← Bl.rot_or x 16 hx (by decide)]
    exact this
  go_enter Tryd.func91, Tryd.ntmps91
  go_wp2
  go_ret
  exact ⟨rfl, rfl⟩
theorem turned16_any (x : Nat) (w : World) (hx : x < 4294967296) : Calls Tryd.prog 97 #[.int .u32 x, .int .u64 16] w fun e w' => e = .returned (.int .u32 (Bl.rot x 16 : Nat)) ∧ w = w' := by
  have ho : bits .or .u32 ((x : Int) / 65536) ((x : Int) * 65536 % 4294967296) = (Bl.rot x 16 : Nat) := by
    have := u32_or_nat (x / 65536) (x * 65536 % 4294967296) (Nat.lt_of_le_of_lt (Nat.div_le_self _ _) hx) (Nat.mod_lt _ (by decide))
    rw [← Bl.rot_or x 16 hx (by decide), Nat.or_comm]
    exact this
  go_enter Tryd.func97, Tryd.ntmps97
  go_wp2
  go_ret
  exact ⟨rfl, rfl⟩
theorem rot20_any (x : Nat) (w : World) (hx : x < 4294967296) : Calls Tryd.prog 91 #[.int .u32 x, .int .i64 (-12)] w fun e w' => e = .returned (.int .u32 (Bl.rot x 20 : Nat)) ∧ w = w' := by
  have hu : IntKind.u64.wrap (-12) = 18446744073709551604 := by decide
  have hm : bits .and .u64 18446744073709551604 31 = 20 := by decide
  have ho : bits .or .u32 ((x : Int) * 1048576 % 4294967296) ((x : Int) / 4096) = (Bl.rot x 20 : Nat) := by
    have := u32_or_nat (x * 1048576 % 4294967296) (x / 4096) (Nat.mod_lt _ (by decide)) (Nat.lt_of_le_of_lt (Nat.div_le_self _ _) hx)
    rw [← Bl.rot_or x 20 hx (by decide)]
    exact this
  go_enter Tryd.func91, Tryd.ntmps91
  go_wp2
  go_ret
  exact ⟨rfl, rfl⟩
theorem turned12_any (x : Nat) (w : World) (hx : x < 4294967296) : Calls Tryd.prog 97 #[.int .u32 x, .int .u64 12] w fun e w' => e = .returned (.int .u32 (Bl.rot x 20 : Nat)) ∧ w = w' := by
  have ho : bits .or .u32 ((x : Int) / 4096) ((x : Int) * 1048576 % 4294967296) = (Bl.rot x 20 : Nat) := by
    have := u32_or_nat (x / 4096) (x * 1048576 % 4294967296) (Nat.lt_of_le_of_lt (Nat.div_le_self _ _) hx) (Nat.mod_lt _ (by decide))
    rw [← Bl.rot_or x 20 hx (by decide), Nat.or_comm]
    exact this
  go_enter Tryd.func97, Tryd.ntmps97
  go_wp2
  go_ret
  exact ⟨rfl, rfl⟩
theorem rot24_any (x : Nat) (w : World) (hx : x < 4294967296) : Calls Tryd.prog 91 #[.int .u32 x, .int .i64 (-8)] w fun e w' => e = .returned (.int .u32 (Bl.rot x 24 : Nat)) ∧ w = w' := by
  have hu : IntKind.u64.wrap (-8) = 18446744073709551608 := by decide
  have hm : bits .and .u64 18446744073709551608 31 = 24 := by decide
  have ho : bits .or .u32 ((x : Int) * 16777216 % 4294967296) ((x : Int) / 256) = (Bl.rot x 24 : Nat) := by
    have := u32_or_nat (x * 16777216 % 4294967296) (x / 256) (Nat.mod_lt _ (by decide)) (Nat.lt_of_le_of_lt (Nat.div_le_self _ _) hx)
    rw [← Bl.rot_or x 24 hx (by decide)]
    exact this
  go_enter Tryd.func91, Tryd.ntmps91
  go_wp2
  go_ret
  exact ⟨rfl, rfl⟩
theorem turned8_any (x : Nat) (w : World) (hx : x < 4294967296) : Calls Tryd.prog 97 #[.int .u32 x, .int .u64 8] w fun e w' => e = .returned (.int .u32 (Bl.rot x 24 : Nat)) ∧ w = w' := by
  have ho : bits .or .u32 ((x : Int) / 256) ((x : Int) * 16777216 % 4294967296) = (Bl.rot x 24 : Nat) := by
    have := u32_or_nat (x / 256) (x * 16777216 % 4294967296) (Nat.lt_of_le_of_lt (Nat.div_le_self _ _) hx) (Nat.mod_lt _ (by decide))
    rw [← Bl.rot_or x 24 hx (by decide), Nat.or_comm]
    exact this
  go_enter Tryd.func97, Tryd.ntmps97
  go_wp2
  go_ret
  exact ⟨rfl, rfl⟩
theorem rot25_any (x : Nat) (w : World) (hx : x < 4294967296) : Calls Tryd.prog 91 #[.int .u32 x, .int .i64 (-7)] w fun e w' => e = .returned (.int .u32 (Bl.rot x 25 : Nat)) ∧ w = w' := by
  have hu : IntKind.u64.wrap (-7) = 18446744073709551609 := by decide
  have hm : bits .and .u64 18446744073709551609 31 = 25 := by decide
  have ho : bits .or .u32 ((x : Int) * 33554432 % 4294967296) ((x : Int) / 128) = (Bl.rot x 25 : Nat) := by
    have := u32_or_nat (x * 33554432 % 4294967296) (x / 128) (Nat.mod_lt _ (by decide)) (Nat.lt_of_le_of_lt (Nat.div_le_self _ _) hx)
    rw [← Bl.rot_or x 25 hx (by decide)]
    exact this
  go_enter Tryd.func91, Tryd.ntmps91
  go_wp2
  go_ret
  exact ⟨rfl, rfl⟩
theorem turned7_any (x : Nat) (w : World) (hx : x < 4294967296) : Calls Tryd.prog 97 #[.int .u32 x, .int .u64 7] w fun e w' => e = .returned (.int .u32 (Bl.rot x 25 : Nat)) ∧ w = w' := by
  have ho : bits .or .u32 ((x : Int) / 128) ((x : Int) * 33554432 % 4294967296) = (Bl.rot x 25 : Nat) := by
    have := u32_or_nat (x / 128) (x * 33554432 % 4294967296) (Nat.lt_of_le_of_lt (Nat.div_le_self _ _) hx) (Nat.mod_lt _ (by decide))
    rw [← Bl.rot_or x 25 hx (by decide), Nat.or_comm]
    exact this
  go_enter Tryd.func97, Tryd.ntmps97
  go_wp2
  go_ret
  exact ⟨rfl, rfl⟩
theorem addw (a b : Nat) : IntKind.u32.wrap ((a : Int) + (b : Int)) = ((Bl.add a b : Nat) : Int) := rfl
theorem add_assoc (a b x : Nat) : Bl.add a (Bl.add b x) = Bl.add (Bl.add a b) x := by unfold Bl.add; omega
set_option maxHeartbeats 1000000 in
theorem mix_any (a b c d x y : Nat) (w : World) (ha : a < 4294967296) (hb : b < 4294967296) (hc : c < 4294967296) (hd : d < 4294967296) :
    Calls Tryd.prog 100 #[.int .u32 a, .int .u32 b, .int .u32 c, .int .u32 d, .int .u32 x, .int .u32 y] w fun e w' => e = .returned (.tuple #[.int .u32 (Bl.mx ⟨a, b, c, d⟩ x y).a, .int .u32 (Bl.mx ⟨a, b, c, d⟩ x y).b, .int .u32 (Bl.mx ⟨a, b, c, d⟩ x y).c, .int .u32 (Bl.mx ⟨a, b, c, d⟩ x y).d]) ∧ w = w' := by
  obtain ⟨a1, ea1⟩ : ∃ a1, a1 = Bl.add (Bl.add a b) x := ⟨_, rfl⟩
  obtain ⟨d1, ed1⟩ : ∃ d1, d1 = Bl.rot (d ^^^ a1) 16 := ⟨_, rfl⟩
  obtain ⟨c1, ec1⟩ : ∃ c1, c1 = Bl.add c d1 := ⟨_, rfl⟩
  obtain ⟨b1, eb1⟩ : ∃ b1, b1 = Bl.rot (b ^^^ c1) 20 := ⟨_, rfl⟩
  obtain ⟨a2, ea2⟩ : ∃ a2, a2 = Bl.add (Bl.add a1 b1) y := ⟨_, rfl⟩
  obtain ⟨d2, ed2⟩ : ∃ d2, d2 = Bl.rot (d1 ^^^ a2) 24 := ⟨_, rfl⟩
  obtain ⟨c2, ec2⟩ : ∃ c2, c2 = Bl.add c1 d2 := ⟨_, rfl⟩
  obtain ⟨b2, eb2⟩ : ∃ b2, b2 = Bl.rot (b1 ^^^ c2) 25 := ⟨_, rfl⟩
  have hmx : Bl.mx ⟨a, b, c, d⟩ x y = ⟨a2, b2, c2, d2⟩ := by
    subst ea1 ed1 ec1 eb1 ea2 ed2 ec2 eb2
    rfl
  rw [hmx]
  have la1 : a1 < 4294967296 := by rw [ea1]; exact Bl.add_lt _ _
  have ld1 : d1 < 4294967296 := by rw [ed1]; exact Bl.rot_lt _ _ (Bl.xor_lt hd la1) (by decide)
  have lc1 : c1 < 4294967296 := by rw [ec1]; exact Bl.add_lt _ _
  have lb1 : b1 < 4294967296 := by rw [eb1]; exact Bl.rot_lt _ _ (Bl.xor_lt hb lc1) (by decide)
  have la2 : a2 < 4294967296 := by rw [ea2]; exact Bl.add_lt _ _
  have ld2 : d2 < 4294967296 := by rw [ed2]; exact Bl.rot_lt _ _ (Bl.xor_lt ld1 la2) (by decide)
  have lc2 : c2 < 4294967296 := by rw [ec2]; exact Bl.add_lt _ _
  have x1 := u32_xor_nat d a1 hd la1
  have x2 := u32_xor_nat b c1 hb lc1
  have x3 := u32_xor_nat d1 a2 ld1 la2
  have x4 := u32_xor_nat b1 c2 lb1 lc2
  have r1 := fun w => rot16_any (d ^^^ a1) w (Bl.xor_lt hd la1)
  have r2 := fun w => rot20_any (b ^^^ c1) w (Bl.xor_lt hb lc1)
  have r3 := fun w => rot24_any (d1 ^^^ a2) w (Bl.xor_lt ld1 la2)
  have r4 := fun w => rot25_any (b1 ^^^ c2) w (Bl.xor_lt lb1 lc2)
  rw [← ed1] at r1
  rw [← eb1] at r2
  rw [← ed2] at r3
  rw [← eb2] at r4
  have s1 := addw b x
  have s2 := addw a (Bl.add b x)
  rw [add_assoc, ← ea1] at s2
  have s3 := addw c d1
  rw [← ec1] at s3
  have s4 := addw b1 y
  have s5 := addw a1 (Bl.add b1 y)
  rw [add_assoc, ← ea2] at s5
  have s6 := addw c1 d2
  rw [← ec2] at s6
  clear ea1 ed1 ec1 eb1 ea2 ed2 ec2 eb2 hmx
  generalize Bl.add b x = t1 at *
  generalize Bl.add b1 y = t2 at *
  go_enter Tryd.func100, Tryd.ntmps100
  go_wp2_with fail
  refine (r1 _).mono ?_
  rintro e w1 ⟨rfl, rfl⟩
  go_wp2_with fail
  refine (r2 _).mono ?_
  rintro e w1 ⟨rfl, rfl⟩
  go_wp2_with fail
  refine (r3 _).mono ?_
  rintro e w1 ⟨rfl, rfl⟩
  go_wp2_with fail
  refine (r4 _).mono ?_
  rintro e w1 ⟨rfl, rfl⟩
  go_wp2_with fail
  refine bodyPost_ret (v := .tuple #[.int .u32 a2, .int .u32 b2, .int .u32 c2, .int .u32 d2]) (by simp [results, Tryd.results64, go_sem]) rfl ⟨rfl, rfl⟩
theorem place_any (b : Nat) (w : World) (hb : b < 256) (h : 48 ≤ b) : Calls Tryd.prog 87 #[.int .u8 b] w fun e w' => e = .returned (.int .i64 ((if 97 ≤ b then b - 87 else b - 48 : Nat) : Int)) ∧ w = w' := by
  by_cases h2 : 97 ≤ b
  · rw [if_pos h2]
    have e : (b : Int) - 97 + 10 = ((b - 87 : Nat) : Int) := by omega
    go_enter Tryd.func87, Tryd.ntmps87
    go_wp2
    go_ret
    exact ⟨by rw [← e]; rfl, rfl⟩
  · rw [if_neg h2]
    have e : (b : Int) - 48 = ((b - 48 : Nat) : Int) := by omega
    go_enter Tryd.func87, Tryd.ntmps87
    go_wp2
    go_ret
    exact ⟨by rw [← e]; rfl, rfl⟩
end Go.Proofs.YtaoaebdjinlcnaaDoor
