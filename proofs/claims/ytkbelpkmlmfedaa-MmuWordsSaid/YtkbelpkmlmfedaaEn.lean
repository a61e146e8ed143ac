/-
  THE WALK of the numbers that a program's file is read by.
-/
import Derived.Test.YtkbelpkmlmfedaaLw
namespace Go.Proofs.Ytkbelpkmlmfedaa
set_option linter.unusedVariables false
set_option maxRecDepth 100000
set_option linter.unusedSimpArgs false
open Go.RowKit
namespace Xe
open _root_.Go.Proofs.Ytkbelpkmlmfedaa.Nm
theorem low_at (b : ByteArray) (i n : Nat) (h8 : n ≤ 8) : Nm.low (b.extract i (i + n)) = Em.at' (toL b) i n := by
  unfold Nm.low Em.at'
  rw [toL_extract, show i + n - i = n from by omega, List.take_take, Nat.min_eq_right h8]
/-- a number of the file -/
def num (b : ByteArray) (i n : Nat) : Nat := Nu.getB (Em.at' (toL b) i n)
theorem num_lt2 (b : ByteArray) (i : Nat) : num b i 2 < 65536 := Em.get_lt _ 2 (Em.at_le _ _ _)
theorem num_lt4 (b : ByteArray) (i : Nat) : num b i 4 < 4294967296 := Em.get_lt _ 4 (Em.at_le _ _ _)
theorem num_get (b : ByteArray) (i n : Nat) (w : World) (h8 : n ≤ 8) (hb : b.size ≤ 100000) : Calls Try.prog 26 #[.string (b.extract i (i + n))] w fun e w' => e = .returned (.int .u64 (num b i n : Nat)) ∧ w = w' := by
  have := get_any (b.extract i (i + n)) w (by rw [ByteArray.size_extract]; omega)
  rw [low_at b i n h8] at this
  exact this
theorem num_rget (b : ByteArray) (i n : Nat) (w : World) (h8 : n ≤ 8) (hb : b.size ≤ 100000) : Calls Try.prog 50 #[.string (b.extract i (i + n))] w fun e w' => e = .returned (.int .u64 (num b i n : Nat)) ∧ w = w' := by
  have := rget_any (b.extract i (i + n)) w (by rw [ByteArray.size_extract]; omega)
  rw [low_at b i n h8] at this
  exact this
theorem number_any (b : ByteArray) (g i n : Nat) (w : World) (hc : w.cell? ⟨g, 0, none⟩ = some (.string b)) (hi : i + n ≤ b.size) (h4 : n ≤ 4) (hb : b.size ≤ 100000) :
    Calls Try.prog 49 #[.int .i64 i, .int .i64 n, .pointer (some ⟨g, 0, none⟩)] w fun e w' => e = .returned (.int .i64 (num b i n : Nat)) ∧ w = w' := by
  have hg := fun w => num_get b i n w (by omega) hb
  have hlt : num b i n < 4294967296 := Em.get_lt _ 4 (Nat.le_trans (Em.at_le _ _ _) h4)
  have i1 : (i : Int) + (n : Int) ≤ (b.size : Int) := by omega
  generalize num b i n = k at *
  go_enter Try.func49, Try.ntmps49
  go_wp2_with fail
  refine (hg _).mono ?_
  rintro e w1 ⟨rfl, rfl⟩
  go_wp2_with fail
  go_ret
  exact ⟨rfl, rfl⟩
end Xe
end Go.Proofs.Ytkbelpkmlmfedaa
