/-
  THE WALKS of how many bytes a part has: the code's and the document's.
-/
import Derived.Test.YtgfnpemonpebpaaAt
namespace Go.Proofs.Ytgfnpemonpebpaa
open Go.RowKit
set_option linter.unusedVariables false
set_option linter.unusedSimpArgs false
/-- how many bytes a part of so many has: 0 of fewer than none -/
def rowsI (n : Int) : Int := if n < 0 then 0 else (Pa.cnt n.toNat : Nat)
theorem rowsI_nat (m : Nat) : rowsI (m : Int) = (Pa.cnt m : Nat) := by unfold rowsI; rw [if_neg (by omega)]; rfl
theorem crows_any (n : Int) (h1 : -9223372036854775808 ≤ n) (h2 : n ≤ 9223372036854775807) (w : World) : Calls Try.prog 13 #[.int .i64 n] w fun e w' => e = .returned (.int .i64 (rowsI n)) ∧ w = w' := by
  by_cases hn : n < 0
  · have e0 : rowsI n = 0 := by unfold rowsI; rw [if_pos hn]
    rw [e0]
    go_enter Try.func13, Try.ntmps13
    go_wp2_with fail
    go_ret
    exact ⟨rfl, rfl⟩
  · obtain ⟨m, rfl⟩ : ∃ m : Nat, n = (m : Int) := ⟨n.toNat, by omega⟩
    rw [rowsI_nat]
    have HC : Hid (Pa.cnt m = (m + 2) / 3) := Lib.hid rfl
    by_cases h3 : m % 3 = 0
    · have HE : Hid ((m : Int) / 3 = (((m + 2) / 3 : Nat) : Int)) := Lib.hid (by omega)
      have t1 : ((m : Int) % 3 != 0) = false := by
        have : (m : Int) % 3 = 0 := by omega
        rw [this]; rfl
      clear h3
      go_enter Try.func13, Try.ntmps13
      go_wp2_with fail
      go_ret
      exact ⟨by rw [HC.out, HE.out]; rfl, rfl⟩
    · have HE : Hid ((m : Int) / 3 + 1 = (((m + 2) / 3 : Nat) : Int)) := Lib.hid (by omega)
      have t1 : ((m : Int) % 3 != 0) = true := by rw [bne_iff_ne]; omega
      have e1 : IntKind.i64.wrap ((m : Int) / 3 + 1) = (m : Int) / 3 + 1 := IntWalk.i64_in _ (by omega)
      clear h3
      go_enter Try.func13, Try.ntmps13
      go_wp2_with fail
      go_ret
      exact ⟨by rw [HC.out, HE.out]; rfl, rfl⟩
theorem rrows_any (n : Int) (h1 : -9223372036854775808 ≤ n) (h2 : n ≤ 9223372036854775807) (w : World) : Calls Try.prog 14 #[.int .i64 n] w fun e w' => e = .returned (.int .i64 (rowsI n)) ∧ w = w' := by
  by_cases hn : n < 0
  · have e0 : rowsI n = 0 := by unfold rowsI; rw [if_pos hn]
    rw [e0]
    go_enter Try.func14, Try.ntmps14
    go_wp2_with fail
    go_ret
    exact ⟨rfl, rfl⟩
  · obtain ⟨m, rfl⟩ : ∃ m : Nat, n = (m : Int) := ⟨n.toNat, by omega⟩
    rw [rowsI_nat]
    have HC : Hid (((m : Int) - (m : Int) % 3) / 3 + ((m : Int) % 3 + 2) / 3 = (Pa.cnt m : Nat)) := Lib.hid (by unfold Pa.cnt; omega)
    have e1 : IntKind.i64.wrap ((m : Int) - (m : Int) % 3) = (m : Int) - (m : Int) % 3 := IntWalk.i64_in _ (by omega)
    have e2 : IntKind.i64.wrap ((m : Int) % 3 + 2) = (m : Int) % 3 + 2 := IntWalk.i64_in _ (by omega)
    have e3 : IntKind.i64.wrap (((m : Int) - (m : Int) % 3) / 3 + ((m : Int) % 3 + 2) / 3) = ((m : Int) - (m : Int) % 3) / 3 + ((m : Int) % 3 + 2) / 3 := IntWalk.i64_in _ (by omega)
    have g1 : 0 ≤ (m : Int) - (m : Int) % 3 := by omega
    have g2 : 0 ≤ (m : Int) % 3 + 2 := by omega
    have d1 : Int.tdiv ((m : Int) - (m : Int) % 3) 3 = ((m : Int) - (m : Int) % 3) / 3 := Int.tdiv_eq_ediv_of_nonneg g1
    have d2 : Int.tdiv ((m : Int) % 3 + 2) 3 = ((m : Int) % 3 + 2) / 3 := Int.tdiv_eq_ediv_of_nonneg g2
    go_enter Try.func14, Try.ntmps14
    go_wp2_with fail
    go_ret
    exact ⟨by rw [HC.out]; rfl, rfl⟩
end Go.Proofs.Ytgfnpemonpebpaa
