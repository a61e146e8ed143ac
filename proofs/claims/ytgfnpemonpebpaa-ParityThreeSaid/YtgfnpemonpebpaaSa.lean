/-
  THE WALK of 'the same parts', where they are the same.
-/
import Derived.Test.YtgfnpemonpebpaaRc
namespace Go.Proofs.Ytgfnpemonpebpaa
open Go.RowKit
set_option linter.unusedVariables false
set_option linter.unusedSimpArgs false
theorem same_any (b o c b' o' c' n : Nat) (l : List (Int × ByteArray)) (w : World) (h : Pl w b o l) (h' : Pl w b' o' l) (hl : l.length = n) (hn : n ≤ 1000) :
    Calls Try.prog 10 #[.slice (some ⟨b, o, none⟩) n c, .slice (some ⟨b', o', none⟩) n c'] w fun e w' => e = .returned (.bool true) ∧ Dr w w' := by
  have H := Lib.hid (And.intro h (And.intro h' hl))
  clear h h' hl
  have t0 : ((n : Int) != (n : Int)) = false := by simp
  go_enter Try.func10, Try.ntmps10
  go_wp2_with fail
  go_loopw [5] (fun i wr => ∃ k : Nat, k ≤ n ∧ i = .int .i64 (k : Int) ∧ Dr w wr) (fun i _ => n - (intOf i).toNat)
  case atStart => exact ⟨0, by omega, rfl, Dr.refl _⟩
  case round =>
    obtain ⟨k, hk, rfl, hd⟩ := hrel
    by_cases hlt : k < n
    · have k0 : (k : Int) < (n : Int) := by omega
      have ek : IntKind.i64.wrap ((k : Int) + 1) = (k : Int) + 1 := IntWalk.i64_in _ (by omega)
      obtain ⟨x, hx⟩ : ∃ x, l[k]? = some x := ⟨l[k]'(by rw [H.out.2.2]; exact hlt), List.getElem?_eq_getElem _⟩
      have c1 := (hd.cell _).trans (H.out.1 k x hx).1
      have c2 := (hd.cell _).trans (H.out.1 k x hx).2
      have d1 := (hd.cell _).trans (H.out.2.1 k x hx).1
      have d2 := (hd.cell _).trans (H.out.2.1 k x hx).2
      clear hx
      go_wp2_with fail
      go_quiet (fail)
      go_wp2_with fail
      go_roundw
      case rel => exact ⟨k + 1, by omega, by go_num, hd.drewN _⟩
      case measure => first | (simp [intOf]; done) | (simp [intOf]; omega)
    · obtain rfl : k = n := by omega
      go_wp2_with fail
      go_ret
      exact ⟨rfl, hd⟩
end Go.Proofs.Ytgfnpemonpebpaa
