/-
  Whether all signs of a text are digits or marks, by the library's contract.
-/
import Derived.Test.YtgjpopndjnbkaaaNm
import Derived.Shelf.GgClosure.StringsIndexFuncTop
import Derived.Shelf.Lay
import Derived.Ground.GgwProg
import Derived.Ground.NamesProg
namespace Go.Proofs
open Go.Shelf
shelf_lay LaysGw.n15 Ggw 15 at Try as Try.l15
end Go.Proofs
namespace Go.Proofs.Ytgjpopndjnbkaaa
open Go.RowKit Go.Shelf Go.Lib
def other (r : Nat) : Bool := !(decide (48 ≤ r) && decide (r ≤ 57)) && !(decide (r = 45)) && !(decide (r = 32)) && !(decide (r = 58))
theorem isOther_at (w : World) : PredAt Try.prog 30 #[] encR other w := fun W r _ => by
  unfold FnGives
  by_cases h1 : 48 ≤ r <;> by_cases h2 : r ≤ 57
  all_goals
    have z1 : (48 : Int) ≤ (r : Int) ↔ 48 ≤ r := by omega
    have z2 : (r : Int) ≤ 57 ↔ r ≤ 57 := by omega
    have z3 : ((r : Int) == 45) = decide (r = 45) := by rw [Bool.eq_iff_iff, beq_iff_eq, decide_eq_true_eq]; omega
    have z4 : ((r : Int) == 32) = decide (r = 32) := by rw [Bool.eq_iff_iff, beq_iff_eq, decide_eq_true_eq]; omega
    have z5 : ((r : Int) == 58) = decide (r = 58) := by rw [Bool.eq_iff_iff, beq_iff_eq, decide_eq_true_eq]; omega
    have ho : other r = (!(decide (48 ≤ r) && decide (r ≤ 57)) && !(decide (r = 45)) && !(decide (r = 32)) && !(decide (r = 58))) := rfl
    rw [ho]
    clear ho
    go_enter Try.func30, Try.ntmps30
    go_wp2
    all_goals first | (exfalso; omega) | (go_ret; refine ⟨?_, 0, rfl⟩; congr 2; try simp only [bne, z3, z4, z5]; first | (simp [h1, h2]; done) | (simp_all; done) | (simp_all; omega))
theorem index_any (s : ByteArray) (w : World) : Calls Try.prog 29 #[.string s, .func (.func 30) #[] #[]] w fun e w' => e = .returned (.int .i64 (Lib.idxFunc other true s)) ∧ Below w.heap.size w w' := by
  have hC := Any.strings_IndexFunc Try.l15 30 #[] (enters_of Try.func30 (by kernel_rfl) rfl) _ s w (isOther_at w)
  exact hC
theorem idxFrom_good (p : Nat → Bool) (s : ByteArray) (h : ∀ k (hk : k < s.size), s[k].toNat < 128 ∧ p s[k].toNat = false) : ∀ (f pos : Nat), s.size ≤ pos + f → Lib.idxFuncFrom p true s f pos = -1
  | 0, _, _ => rfl
  | f + 1, pos, hf => by
    by_cases hp : pos < s.size
    · obtain ⟨h1, h2⟩ := h pos hp
      have hd : Utf8.decode s pos = (s[pos].toNat, 1) := by
        rw [Lib.decode_at]
        have e : s.get! pos = s[pos] := getElem!_pos s.data pos (by simpa using hp)
        rw [e]
        unfold Lib.decodeN
        simp [h1]
      rw [Lib.idxFuncFrom, if_pos hp, hd]
      simp only
      rw [h2, if_neg (by decide)]
      exact idxFrom_good p s h f (pos + 1) (by omega)
    · exact Lib.idxFuncFrom_end _ _ _ _ _ hp
end Go.Proofs.Ytgjpopndjnbkaaa
