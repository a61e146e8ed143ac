/-
  THE WALKS of the small functions about an operation.
-/
import Derived.Test.YtkbelpkmlmfedaaProg
import Derived.Test.YtkbelpkmlmfedaaJIm
import Derived.WalkKit
import Derived.WalkSpells
import Derived.Lib.Hide
import Derived.Below
import Derived.OwnWalk
import Derived.WalkLawsBesides
import Derived.Deep.QuietTactic
import Derived.BigQuiet
import Derived.Deep.Draws
import Derived.Laws.BitsAllLaws
namespace Go.Proofs.Ytkbelpkmlmfedaa.Is2
open Go.RowKit
theorem quietA {P : Program} {f : FuncId} {args : Array Value} {w : World} {n : Nat} {v : Value}
    (h : Calls P f args (w.drewN n) fun e w' => e = .returned v ∧ w.drewN n = w') : Calls P f args (w.drewN n) fun e w'' => e = .returned v ∧ ∃ m, w'' = w.drewN m :=
  h.mono fun _ _ ⟨he, hm⟩ => ⟨he, n, hm.symm⟩
set_option maxRecDepth 100000 in
theorem isOp_any (op : Nat) (w : World) : Calls Try.prog 55 #[.int .u8 op] w fun e w' => e = .returned (.bool (decide (Is.isOp op))) ∧ w = w' := by
  by_cases c0 : 1 ≤ op
  · have d0 : (1 : Int) ≤ (op : Int) := by omega
    by_cases c1 : op ≤ 31
    · have d1 : (op : Int) ≤ 31 := by omega
      first
        | (exfalso; omega)
        | (go_enter Try.func55, Try.ntmps55
           go_wp2_with fail
           go_ret
           first
             | exact ⟨by (rw [decide_eq_true (p := Is.isOp op) (by unfold Is.isOp; omega)]) <;> rfl, rfl⟩
             | exact ⟨by (rw [decide_eq_false (p := Is.isOp op) (by unfold Is.isOp; omega)]) <;> rfl, rfl⟩
             | exact ⟨by simp [Is.isOp], rfl⟩)
    · have d1 : ¬ (op : Int) ≤ 31 := by omega
      have e1 : decide ((op : Int) ≤ 31) = false := by rw [decide_eq_false_iff_not]; omega
      first
        | (exfalso; omega)
        | (go_enter Try.func55, Try.ntmps55
           go_wp2_with fail
           go_ret
           first
             | exact ⟨by (rw [decide_eq_true (p := Is.isOp op) (by unfold Is.isOp; omega)]) <;> rfl, rfl⟩
             | exact ⟨by (rw [decide_eq_false (p := Is.isOp op) (by unfold Is.isOp; omega)]) <;> rfl, rfl⟩
             | exact ⟨by simp [Is.isOp], rfl⟩)
  · have d0 : ¬ (1 : Int) ≤ (op : Int) := by omega
    have e0 : decide ((1 : Int) ≤ (op : Int)) = false := by rw [decide_eq_false_iff_not]; omega
    by_cases c1 : op ≤ 31
    · have d1 : (op : Int) ≤ 31 := by omega
      first
        | (exfalso; omega)
        | (go_enter Try.func55, Try.ntmps55
           go_wp2_with fail
           go_ret
           first
             | exact ⟨by (rw [decide_eq_true (p := Is.isOp op) (by unfold Is.isOp; omega)]) <;> rfl, rfl⟩
             | exact ⟨by (rw [decide_eq_false (p := Is.isOp op) (by unfold Is.isOp; omega)]) <;> rfl, rfl⟩
             | exact ⟨by simp [Is.isOp], rfl⟩)
    · have d1 : ¬ (op : Int) ≤ 31 := by omega
      have e1 : decide ((op : Int) ≤ 31) = false := by rw [decide_eq_false_iff_not]; omega
      first
        | (exfalso; omega)
        | (go_enter Try.func55, Try.ntmps55
           go_wp2_with fail
           go_ret
           first
             | exact ⟨by (rw [decide_eq_true (p := Is.isOp op) (by unfold Is.isOp; omega)]) <;> rfl, rfl⟩
             | exact ⟨by (rw [decide_eq_false (p := Is.isOp op) (by unfold Is.isOp; omega)]) <;> rfl, rfl⟩
             | exact ⟨by simp [Is.isOp], rfl⟩)
set_option maxRecDepth 100000 in
theorem hasA_any (op : Nat) (w : World) : Calls Try.prog 57 #[.int .u8 op] w fun e w' => e = .returned (.bool (decide (Is.hasA op))) ∧ w = w' := by
  by_cases c0 : op = 31
  · have d0 : (((op) : Int) == 31) = true := by rw [beq_iff_eq]; omega
    have n0 : (((op) : Int) != 31) = false := by rw [bne, d0]; rfl
    first
      | (exfalso; omega)
      | (go_enter Try.func57, Try.ntmps57
         go_wp2_with fail
         go_ret
         first
           | exact ⟨by (rw [decide_eq_true (p := Is.hasA op) (by unfold Is.hasA; omega)]) <;> rfl, rfl⟩
           | exact ⟨by (rw [decide_eq_false (p := Is.hasA op) (by unfold Is.hasA; omega)]) <;> rfl, rfl⟩
           | exact ⟨by simp [Is.hasA], rfl⟩)
  · have d0 : (((op) : Int) == 31) = false := by rw [beq_eq_false_iff_ne]; omega
    have n0 : (((op) : Int) != 31) = true := by rw [bne, d0]; rfl
    first
      | (exfalso; omega)
      | (go_enter Try.func57, Try.ntmps57
         go_wp2_with fail
         go_ret
         first
           | exact ⟨by (rw [decide_eq_true (p := Is.hasA op) (by unfold Is.hasA; omega)]) <;> rfl, rfl⟩
           | exact ⟨by (rw [decide_eq_false (p := Is.hasA op) (by unfold Is.hasA; omega)]) <;> rfl, rfl⟩
           | exact ⟨by simp [Is.hasA], rfl⟩)
set_option maxRecDepth 100000 in
theorem hasB_any (op : Nat) (w : World) : Calls Try.prog 58 #[.int .u8 op] w fun e w' => e = .returned (.bool (decide (Is.hasB op))) ∧ w = w' := by
  by_cases c0 : op = 19
  · have d0 : (((op) : Int) == 19) = true := by rw [beq_iff_eq]; omega
    have n0 : (((op) : Int) != 19) = false := by rw [bne, d0]; rfl
    by_cases c1 : op = 29
    · have d1 : (((op) : Int) == 29) = true := by rw [beq_iff_eq]; omega
      have n1 : (((op) : Int) != 29) = false := by rw [bne, d1]; rfl
      by_cases c2 : op = 31
      · have d2 : (((op) : Int) == 31) = true := by rw [beq_iff_eq]; omega
        have n2 : (((op) : Int) != 31) = false := by rw [bne, d2]; rfl
        first
          | (exfalso; omega)
          | (go_enter Try.func58, Try.ntmps58
             go_wp2_with fail
             go_ret
             first
               | exact ⟨by (rw [decide_eq_true (p := Is.hasB op) (by unfold Is.hasB; omega)]) <;> rfl, rfl⟩
               | exact ⟨by (rw [decide_eq_false (p := Is.hasB op) (by unfold Is.hasB; omega)]) <;> rfl, rfl⟩
               | exact ⟨by simp [Is.hasB], rfl⟩)
      · have d2 : (((op) : Int) == 31) = false := by rw [beq_eq_false_iff_ne]; omega
        have n2 : (((op) : Int) != 31) = true := by rw [bne, d2]; rfl
        first
          | (exfalso; omega)
          | (go_enter Try.func58, Try.ntmps58
             go_wp2_with fail
             go_ret
             first
               | exact ⟨by (rw [decide_eq_true (p := Is.hasB op) (by unfold Is.hasB; omega)]) <;> rfl, rfl⟩
               | exact ⟨by (rw [decide_eq_false (p := Is.hasB op) (by unfold Is.hasB; omega)]) <;> rfl, rfl⟩
               | exact ⟨by simp [Is.hasB], rfl⟩)
    · have d1 : (((op) : Int) == 29) = false := by rw [beq_eq_false_iff_ne]; omega
      have n1 : (((op) : Int) != 29) = true := by rw [bne, d1]; rfl
      by_cases c2 : op = 31
      · have d2 : (((op) : Int) == 31) = true := by rw [beq_iff_eq]; omega
        have n2 : (((op) : Int) != 31) = false := by rw [bne, d2]; rfl
        first
          | (exfalso; omega)
          | (go_enter Try.func58, Try.ntmps58
             go_wp2_with fail
             go_ret
             first
               | exact ⟨by (rw [decide_eq_true (p := Is.hasB op) (by unfold Is.hasB; omega)]) <;> rfl, rfl⟩
               | exact ⟨by (rw [decide_eq_false (p := Is.hasB op) (by unfold Is.hasB; omega)]) <;> rfl, rfl⟩
               | exact ⟨by simp [Is.hasB], rfl⟩)
      · have d2 : (((op) : Int) == 31) = false := by rw [beq_eq_false_iff_ne]; omega
        have n2 : (((op) : Int) != 31) = true := by rw [bne, d2]; rfl
        first
          | (exfalso; omega)
          | (go_enter Try.func58, Try.ntmps58
             go_wp2_with fail
             go_ret
             first
               | exact ⟨by (rw [decide_eq_true (p := Is.hasB op) (by unfold Is.hasB; omega)]) <;> rfl, rfl⟩
               | exact ⟨by (rw [decide_eq_false (p := Is.hasB op) (by unfold Is.hasB; omega)]) <;> rfl, rfl⟩
               | exact ⟨by simp [Is.hasB], rfl⟩)
  · have d0 : (((op) : Int) == 19) = false := by rw [beq_eq_false_iff_ne]; omega
    have n0 : (((op) : Int) != 19) = true := by rw [bne, d0]; rfl
    by_cases c1 : op = 29
    · have d1 : (((op) : Int) == 29) = true := by rw [beq_iff_eq]; omega
      have n1 : (((op) : Int) != 29) = false := by rw [bne, d1]; rfl
      by_cases c2 : op = 31
      · have d2 : (((op) : Int) == 31) = true := by rw [beq_iff_eq]; omega
        have n2 : (((op) : Int) != 31) = false := by rw [bne, d2]; rfl
        first
          | (exfalso; omega)
          | (go_enter Try.func58, Try.ntmps58
             go_wp2_with fail
             go_ret
             first
               | exact ⟨by (rw [decide_eq_true (p := Is.hasB op) (by unfold Is.hasB; omega)]) <;> rfl, rfl⟩
               | exact ⟨by (rw [decide_eq_false (p := Is.hasB op) (by unfold Is.hasB; omega)]) <;> rfl, rfl⟩
               | exact ⟨by simp [Is.hasB], rfl⟩)
      · have d2 : (((op) : Int) == 31) = false := by rw [beq_eq_false_iff_ne]; omega
        have n2 : (((op) : Int) != 31) = true := by rw [bne, d2]; rfl
        first
          | (exfalso; omega)
          | (go_enter Try.func58, Try.ntmps58
             go_wp2_with fail
             go_ret
             first
               | exact ⟨by (rw [decide_eq_true (p := Is.hasB op) (by unfold Is.hasB; omega)]) <;> rfl, rfl⟩
               | exact ⟨by (rw [decide_eq_false (p := Is.hasB op) (by unfold Is.hasB; omega)]) <;> rfl, rfl⟩
               | exact ⟨by simp [Is.hasB], rfl⟩)
    · have d1 : (((op) : Int) == 29) = false := by rw [beq_eq_false_iff_ne]; omega
      have n1 : (((op) : Int) != 29) = true := by rw [bne, d1]; rfl
      by_cases c2 : op = 31
      · have d2 : (((op) : Int) == 31) = true := by rw [beq_iff_eq]; omega
        have n2 : (((op) : Int) != 31) = false := by rw [bne, d2]; rfl
        first
          | (exfalso; omega)
          | (go_enter Try.func58, Try.ntmps58
             go_wp2_with fail
             go_ret
             first
               | exact ⟨by (rw [decide_eq_true (p := Is.hasB op) (by unfold Is.hasB; omega)]) <;> rfl, rfl⟩
               | exact ⟨by (rw [decide_eq_false (p := Is.hasB op) (by unfold Is.hasB; omega)]) <;> rfl, rfl⟩
               | exact ⟨by simp [Is.hasB], rfl⟩)
      · have d2 : (((op) : Int) == 31) = false := by rw [beq_eq_false_iff_ne]; omega
        have n2 : (((op) : Int) != 31) = true := by rw [bne, d2]; rfl
        first
          | (exfalso; omega)
          | (go_enter Try.func58, Try.ntmps58
             go_wp2_with fail
             go_ret
             first
               | exact ⟨by (rw [decide_eq_true (p := Is.hasB op) (by unfold Is.hasB; omega)]) <;> rfl, rfl⟩
               | exact ⟨by (rw [decide_eq_false (p := Is.hasB op) (by unfold Is.hasB; omega)]) <;> rfl, rfl⟩
               | exact ⟨by simp [Is.hasB], rfl⟩)
set_option maxRecDepth 100000 in
theorem hasC_any (op : Nat) (w : World) : Calls Try.prog 59 #[.int .u8 op] w fun e w' => e = .returned (.bool (decide (Is.hasC op))) ∧ w = w' := by
  by_cases c0 : op ≤ 13
  · have d0 : (op : Int) ≤ 13 := by omega
    first
      | (exfalso; omega)
      | (go_enter Try.func59, Try.ntmps59
         go_wp2_with fail
         go_ret
         first
           | exact ⟨by (rw [decide_eq_true (p := Is.hasC op) (by unfold Is.hasC; omega)]) <;> rfl, rfl⟩
           | exact ⟨by (rw [decide_eq_false (p := Is.hasC op) (by unfold Is.hasC; omega)]) <;> rfl, rfl⟩
           | exact ⟨by simp [Is.hasC], rfl⟩)
  · have d0 : ¬ (op : Int) ≤ 13 := by omega
    have e0 : decide ((op : Int) ≤ 13) = false := by rw [decide_eq_false_iff_not]; omega
    first
      | (exfalso; omega)
      | (go_enter Try.func59, Try.ntmps59
         go_wp2_with fail
         go_ret
         first
           | exact ⟨by (rw [decide_eq_true (p := Is.hasC op) (by unfold Is.hasC; omega)]) <;> rfl, rfl⟩
           | exact ⟨by (rw [decide_eq_false (p := Is.hasC op) (by unfold Is.hasC; omega)]) <;> rfl, rfl⟩
           | exact ⟨by simp [Is.hasC], rfl⟩)
set_option maxRecDepth 100000 in
theorem hasImm_any (op : Nat) (w : World) : Calls Try.prog 60 #[.int .u8 op] w fun e w' => e = .returned (.bool (decide (Is.hasImm op))) ∧ w = w' := by
  by_cases c0 : 13 < op
  · have d0 : (13 : Int) < (op : Int) := by omega
    first
      | (exfalso; omega)
      | (go_enter Try.func60, Try.ntmps60
         go_wp2_with fail
         go_ret
         first
           | exact ⟨by (rw [decide_eq_true (p := Is.hasImm op) (by unfold Is.hasImm; omega)]) <;> rfl, rfl⟩
           | exact ⟨by (rw [decide_eq_false (p := Is.hasImm op) (by unfold Is.hasImm; omega)]) <;> rfl, rfl⟩
           | exact ⟨by simp [Is.hasImm], rfl⟩)
  · have d0 : ¬ (13 : Int) < (op : Int) := by omega
    have e0 : decide ((13 : Int) < (op : Int)) = false := by rw [decide_eq_false_iff_not]; omega
    first
      | (exfalso; omega)
      | (go_enter Try.func60, Try.ntmps60
         go_wp2_with fail
         go_ret
         first
           | exact ⟨by (rw [decide_eq_true (p := Is.hasImm op) (by unfold Is.hasImm; omega)]) <;> rfl, rfl⟩
           | exact ⟨by (rw [decide_eq_false (p := Is.hasImm op) (by unfold Is.hasImm; omega)]) <;> rfl, rfl⟩
           | exact ⟨by simp [Is.hasImm], rfl⟩)
set_option maxRecDepth 100000 in
theorem uns_any (op : Nat) (w : World) : Calls Try.prog 62 #[.int .u8 op] w fun e w' => e = .returned (.bool (decide (Is.uns op))) ∧ w = w' := by
  by_cases c0 : 15 ≤ op
  · have d0 : (15 : Int) ≤ (op : Int) := by omega
    by_cases c1 : op ≤ 17
    · have d1 : (op : Int) ≤ 17 := by omega
      by_cases c2 : op = 19
      · have d2 : (((op) : Int) == 19) = true := by rw [beq_iff_eq]; omega
        have n2 : (((op) : Int) != 19) = false := by rw [bne, d2]; rfl
        by_cases c3 : op = 31
        · have d3 : (((op) : Int) == 31) = true := by rw [beq_iff_eq]; omega
          have n3 : (((op) : Int) != 31) = false := by rw [bne, d3]; rfl
          first
            | (exfalso; omega)
            | (go_enter Try.func62, Try.ntmps62
               go_wp2_with fail
               go_ret
               first
                 | exact ⟨by (rw [decide_eq_true (p := Is.uns op) (by unfold Is.uns; omega)]) <;> rfl, rfl⟩
                 | exact ⟨by (rw [decide_eq_false (p := Is.uns op) (by unfold Is.uns; omega)]) <;> rfl, rfl⟩
                 | exact ⟨by simp [Is.uns], rfl⟩)
        · have d3 : (((op) : Int) == 31) = false := by rw [beq_eq_false_iff_ne]; omega
          have n3 : (((op) : Int) != 31) = true := by rw [bne, d3]; rfl
          first
            | (exfalso; omega)
            | (go_enter Try.func62, Try.ntmps62
               go_wp2_with fail
               go_ret
               first
                 | exact ⟨by (rw [decide_eq_true (p := Is.uns op) (by unfold Is.uns; omega)]) <;> rfl, rfl⟩
                 | exact ⟨by (rw [decide_eq_false (p := Is.uns op) (by unfold Is.uns; omega)]) <;> rfl, rfl⟩
                 | exact ⟨by simp [Is.uns], rfl⟩)
      · have d2 : (((op) : Int) == 19) = false := by rw [beq_eq_false_iff_ne]; omega
        have n2 : (((op) : Int) != 19) = true := by rw [bne, d2]; rfl
        by_cases c3 : op = 31
        · have d3 : (((op) : Int) == 31) = true := by rw [beq_iff_eq]; omega
          have n3 : (((op) : Int) != 31) = false := by rw [bne, d3]; rfl
          first
            | (exfalso; omega)
            | (go_enter Try.func62, Try.ntmps62
               go_wp2_with fail
               go_ret
               first
                 | exact ⟨by (rw [decide_eq_true (p := Is.uns op) (by unfold Is.uns; omega)]) <;> rfl, rfl⟩
                 | exact ⟨by (rw [decide_eq_false (p := Is.uns op) (by unfold Is.uns; omega)]) <;> rfl, rfl⟩
                 | exact ⟨by simp [Is.uns], rfl⟩)
        · have d3 : (((op) : Int) == 31) = false := by rw [beq_eq_false_iff_ne]; omega
          have n3 : (((op) : Int) != 31) = true := by rw [bne, d3]; rfl
          first
            | (exfalso; omega)
            | (go_enter Try.func62, Try.ntmps62
               go_wp2_with fail
               go_ret
               first
                 | exact ⟨by (rw [decide_eq_true (p := Is.uns op) (by unfold Is.uns; omega)]) <;> rfl, rfl⟩
                 | exact ⟨by (rw [decide_eq_false (p := Is.uns op) (by unfold Is.uns; omega)]) <;> rfl, rfl⟩
                 | exact ⟨by simp [Is.uns], rfl⟩)
    · have d1 : ¬ (op : Int) ≤ 17 := by omega
      have e1 : decide ((op : Int) ≤ 17) = false := by rw [decide_eq_false_iff_not]; omega
      by_cases c2 : op = 19
      · have d2 : (((op) : Int) == 19) = true := by rw [beq_iff_eq]; omega
        have n2 : (((op) : Int) != 19) = false := by rw [bne, d2]; rfl
        by_cases c3 : op = 31
        · have d3 : (((op) : Int) == 31) = true := by rw [beq_iff_eq]; omega
          have n3 : (((op) : Int) != 31) = false := by rw [bne, d3]; rfl
          first
            | (exfalso; omega)
            | (go_enter Try.func62, Try.ntmps62
               go_wp2_with fail
               go_ret
               first
                 | exact ⟨by (rw [decide_eq_true (p := Is.uns op) (by unfold Is.uns; omega)]) <;> rfl, rfl⟩
                 | exact ⟨by (rw [decide_eq_false (p := Is.uns op) (by unfold Is.uns; omega)]) <;> rfl, rfl⟩
                 | exact ⟨by simp [Is.uns], rfl⟩)
        · have d3 : (((op) : Int) == 31) = false := by rw [beq_eq_false_iff_ne]; omega
          have n3 : (((op) : Int) != 31) = true := by rw [bne, d3]; rfl
          first
            | (exfalso; omega)
            | (go_enter Try.func62, Try.ntmps62
               go_wp2_with fail
               go_ret
               first
                 | exact ⟨by (rw [decide_eq_true (p := Is.uns op) (by unfold Is.uns; omega)]) <;> rfl, rfl⟩
                 | exact ⟨by (rw [decide_eq_false (p := Is.uns op) (by unfold Is.uns; omega)]) <;> rfl, rfl⟩
                 | exact ⟨by simp [Is.uns], rfl⟩)
      · have d2 : (((op) : Int) == 19) = false := by rw [beq_eq_false_iff_ne]; omega
        have n2 : (((op) : Int) != 19) = true := by rw [bne, d2]; rfl
        by_cases c3 : op = 31
        · have d3 : (((op) : Int) == 31) = true := by rw [beq_iff_eq]; omega
          have n3 : (((op) : Int) != 31) = false := by rw [bne, d3]; rfl
          first
            | (exfalso; omega)
            | (go_enter Try.func62, Try.ntmps62
               go_wp2_with fail
               go_ret
               first
                 | exact ⟨by (rw [decide_eq_true (p := Is.uns op) (by unfold Is.uns; omega)]) <;> rfl, rfl⟩
                 | exact ⟨by (rw [decide_eq_false (p := Is.uns op) (by unfold Is.uns; omega)]) <;> rfl, rfl⟩
                 | exact ⟨by simp [Is.uns], rfl⟩)
        · have d3 : (((op) : Int) == 31) = false := by rw [beq_eq_false_iff_ne]; omega
          have n3 : (((op) : Int) != 31) = true := by rw [bne, d3]; rfl
          first
            | (exfalso; omega)
            | (go_enter Try.func62, Try.ntmps62
               go_wp2_with fail
               go_ret
               first
                 | exact ⟨by (rw [decide_eq_true (p := Is.uns op) (by unfold Is.uns; omega)]) <;> rfl, rfl⟩
                 | exact ⟨by (rw [decide_eq_false (p := Is.uns op) (by unfold Is.uns; omega)]) <;> rfl, rfl⟩
                 | exact ⟨by simp [Is.uns], rfl⟩)
  · have d0 : ¬ (15 : Int) ≤ (op : Int) := by omega
    have e0 : decide ((15 : Int) ≤ (op : Int)) = false := by rw [decide_eq_false_iff_not]; omega
    by_cases c1 : op ≤ 17
    · have d1 : (op : Int) ≤ 17 := by omega
      by_cases c2 : op = 19
      · have d2 : (((op) : Int) == 19) = true := by rw [beq_iff_eq]; omega
        have n2 : (((op) : Int) != 19) = false := by rw [bne, d2]; rfl
        by_cases c3 : op = 31
        · have d3 : (((op) : Int) == 31) = true := by rw [beq_iff_eq]; omega
          have n3 : (((op) : Int) != 31) = false := by rw [bne, d3]; rfl
          first
            | (exfalso; omega)
            | (go_enter Try.func62, Try.ntmps62
               go_wp2_with fail
               go_ret
               first
                 | exact ⟨by (rw [decide_eq_true (p := Is.uns op) (by unfold Is.uns; omega)]) <;> rfl, rfl⟩
                 | exact ⟨by (rw [decide_eq_false (p := Is.uns op) (by unfold Is.uns; omega)]) <;> rfl, rfl⟩
                 | exact ⟨by simp [Is.uns], rfl⟩)
        · have d3 : (((op) : Int) == 31) = false := by rw [beq_eq_false_iff_ne]; omega
          have n3 : (((op) : Int) != 31) = true := by rw [bne, d3]; rfl
          first
            | (exfalso; omega)
            | (go_enter Try.func62, Try.ntmps62
               go_wp2_with fail
               go_ret
               first
                 | exact ⟨by (rw [decide_eq_true (p := Is.uns op) (by unfold Is.uns; omega)]) <;> rfl, rfl⟩
                 | exact ⟨by (rw [decide_eq_false (p := Is.uns op) (by unfold Is.uns; omega)]) <;> rfl, rfl⟩
                 | exact ⟨by simp [Is.uns], rfl⟩)
      · have d2 : (((op) : Int) == 19) = false := by rw [beq_eq_false_iff_ne]; omega
        have n2 : (((op) : Int) != 19) = true := by rw [bne, d2]; rfl
        by_cases c3 : op = 31
        · have d3 : (((op) : Int) == 31) = true := by rw [beq_iff_eq]; omega
          have n3 : (((op) : Int) != 31) = false := by rw [bne, d3]; rfl
          first
            | (exfalso; omega)
            | (go_enter Try.func62, Try.ntmps62
               go_wp2_with fail
               go_ret
               first
                 | exact ⟨by (rw [decide_eq_true (p := Is.uns op) (by unfold Is.uns; omega)]) <;> rfl, rfl⟩
                 | exact ⟨by (rw [decide_eq_false (p := Is.uns op) (by unfold Is.uns; omega)]) <;> rfl, rfl⟩
                 | exact ⟨by simp [Is.uns], rfl⟩)
        · have d3 : (((op) : Int) == 31) = false := by rw [beq_eq_false_iff_ne]; omega
          have n3 : (((op) : Int) != 31) = true := by rw [bne, d3]; rfl
          first
            | (exfalso; omega)
            | (go_enter Try.func62, Try.ntmps62
               go_wp2_with fail
               go_ret
               first
                 | exact ⟨by (rw [decide_eq_true (p := Is.uns op) (by unfold Is.uns; omega)]) <;> rfl, rfl⟩
                 | exact ⟨by (rw [decide_eq_false (p := Is.uns op) (by unfold Is.uns; omega)]) <;> rfl, rfl⟩
                 | exact ⟨by simp [Is.uns], rfl⟩)
    · have d1 : ¬ (op : Int) ≤ 17 := by omega
      have e1 : decide ((op : Int) ≤ 17) = false := by rw [decide_eq_false_iff_not]; omega
      by_cases c2 : op = 19
      · have d2 : (((op) : Int) == 19) = true := by rw [beq_iff_eq]; omega
        have n2 : (((op) : Int) != 19) = false := by rw [bne, d2]; rfl
        by_cases c3 : op = 31
        · have d3 : (((op) : Int) == 31) = true := by rw [beq_iff_eq]; omega
          have n3 : (((op) : Int) != 31) = false := by rw [bne, d3]; rfl
          first
            | (exfalso; omega)
            | (go_enter Try.func62, Try.ntmps62
               go_wp2_with fail
               go_ret
               first
                 | exact ⟨by (rw [decide_eq_true (p := Is.uns op) (by unfold Is.uns; omega)]) <;> rfl, rfl⟩
                 | exact ⟨by (rw [decide_eq_false (p := Is.uns op) (by unfold Is.uns; omega)]) <;> rfl, rfl⟩
                 | exact ⟨by simp [Is.uns], rfl⟩)
        · have d3 : (((op) : Int) == 31) = false := by rw [beq_eq_false_iff_ne]; omega
          have n3 : (((op) : Int) != 31) = true := by rw [bne, d3]; rfl
          first
            | (exfalso; omega)
            | (go_enter Try.func62, Try.ntmps62
               go_wp2_with fail
               go_ret
               first
                 | exact ⟨by (rw [decide_eq_true (p := Is.uns op) (by unfold Is.uns; omega)]) <;> rfl, rfl⟩
                 | exact ⟨by (rw [decide_eq_false (p := Is.uns op) (by unfold Is.uns; omega)]) <;> rfl, rfl⟩
                 | exact ⟨by simp [Is.uns], rfl⟩)
      · have d2 : (((op) : Int) == 19) = false := by rw [beq_eq_false_iff_ne]; omega
        have n2 : (((op) : Int) != 19) = true := by rw [bne, d2]; rfl
        by_cases c3 : op = 31
        · have d3 : (((op) : Int) == 31) = true := by rw [beq_iff_eq]; omega
          have n3 : (((op) : Int) != 31) = false := by rw [bne, d3]; rfl
          first
            | (exfalso; omega)
            | (go_enter Try.func62, Try.ntmps62
               go_wp2_with fail
               go_ret
               first
                 | exact ⟨by (rw [decide_eq_true (p := Is.uns op) (by unfold Is.uns; omega)]) <;> rfl, rfl⟩
                 | exact ⟨by (rw [decide_eq_false (p := Is.uns op) (by unfold Is.uns; omega)]) <;> rfl, rfl⟩
                 | exact ⟨by simp [Is.uns], rfl⟩)
        · have d3 : (((op) : Int) == 31) = false := by rw [beq_eq_false_iff_ne]; omega
          have n3 : (((op) : Int) != 31) = true := by rw [bne, d3]; rfl
          first
            | (exfalso; omega)
            | (go_enter Try.func62, Try.ntmps62
               go_wp2_with fail
               go_ret
               first
                 | exact ⟨by (rw [decide_eq_true (p := Is.uns op) (by unfold Is.uns; omega)]) <;> rfl, rfl⟩
                 | exact ⟨by (rw [decide_eq_false (p := Is.uns op) (by unfold Is.uns; omega)]) <;> rfl, rfl⟩
                 | exact ⟨by simp [Is.uns], rfl⟩)
set_option maxRecDepth 100000 in
theorem right_any (p : Prop) [Decidable p] (r : Nat) (w : World) : Calls Try.prog 56 #[.bool (decide p), .int .u8 r] w fun e w' => e = .returned (.bool (decide (Is.right p r))) ∧ w = w' := by
  by_cases hp : p
  · rw [decide_eq_true hp]
    by_cases c0 : r = 0
    · have d0 : (((r) : Int) == 0) = true := by rw [beq_iff_eq]; omega
      have n0 : (((r) : Int) != 0) = false := by rw [bne, d0]; rfl
      by_cases c1 : r ≤ 15
      · have d1 : (r : Int) ≤ 15 := by omega
        first
          | (exfalso; omega)
          | (go_enter Try.func56, Try.ntmps56
             go_wp2_with fail
             go_ret
             first
               | exact ⟨by (rw [decide_eq_true (p := Is.right p r) (by first | exact .inl (by omega) | exact .inr ⟨hp, by omega⟩)]) <;> rfl, rfl⟩
               | exact ⟨by (rw [decide_eq_false (p := Is.right p r) (fun h => by rcases h with h | ⟨h, h2⟩ <;> first | omega | exact absurd h hp)]) <;> rfl, rfl⟩)
      · have d1 : ¬ (r : Int) ≤ 15 := by omega
        have e1 : decide ((r : Int) ≤ 15) = false := by rw [decide_eq_false_iff_not]; omega
        first
          | (exfalso; omega)
          | (go_enter Try.func56, Try.ntmps56
             go_wp2_with fail
             go_ret
             first
               | exact ⟨by (rw [decide_eq_true (p := Is.right p r) (by first | exact .inl (by omega) | exact .inr ⟨hp, by omega⟩)]) <;> rfl, rfl⟩
               | exact ⟨by (rw [decide_eq_false (p := Is.right p r) (fun h => by rcases h with h | ⟨h, h2⟩ <;> first | omega | exact absurd h hp)]) <;> rfl, rfl⟩)
    · have d0 : (((r) : Int) == 0) = false := by rw [beq_eq_false_iff_ne]; omega
      have n0 : (((r) : Int) != 0) = true := by rw [bne, d0]; rfl
      by_cases c1 : r ≤ 15
      · have d1 : (r : Int) ≤ 15 := by omega
        first
          | (exfalso; omega)
          | (go_enter Try.func56, Try.ntmps56
             go_wp2_with fail
             go_ret
             first
               | exact ⟨by (rw [decide_eq_true (p := Is.right p r) (by first | exact .inl (by omega) | exact .inr ⟨hp, by omega⟩)]) <;> rfl, rfl⟩
               | exact ⟨by (rw [decide_eq_false (p := Is.right p r) (fun h => by rcases h with h | ⟨h, h2⟩ <;> first | omega | exact absurd h hp)]) <;> rfl, rfl⟩)
      · have d1 : ¬ (r : Int) ≤ 15 := by omega
        have e1 : decide ((r : Int) ≤ 15) = false := by rw [decide_eq_false_iff_not]; omega
        first
          | (exfalso; omega)
          | (go_enter Try.func56, Try.ntmps56
             go_wp2_with fail
             go_ret
             first
               | exact ⟨by (rw [decide_eq_true (p := Is.right p r) (by first | exact .inl (by omega) | exact .inr ⟨hp, by omega⟩)]) <;> rfl, rfl⟩
               | exact ⟨by (rw [decide_eq_false (p := Is.right p r) (fun h => by rcases h with h | ⟨h, h2⟩ <;> first | omega | exact absurd h hp)]) <;> rfl, rfl⟩)
  · rw [decide_eq_false hp]
    by_cases c0 : r = 0
    · have d0 : (((r) : Int) == 0) = true := by rw [beq_iff_eq]; omega
      have n0 : (((r) : Int) != 0) = false := by rw [bne, d0]; rfl
      first
        | (exfalso; omega)
        | (go_enter Try.func56, Try.ntmps56
           go_wp2_with fail
           go_ret
           first
             | exact ⟨by (rw [decide_eq_true (p := Is.right p r) (by first | exact .inl (by omega) | exact .inr ⟨hp, by omega⟩)]) <;> rfl, rfl⟩
             | exact ⟨by (rw [decide_eq_false (p := Is.right p r) (fun h => by rcases h with h | ⟨h, h2⟩ <;> first | omega | exact absurd h hp)]) <;> rfl, rfl⟩)
    · have d0 : (((r) : Int) == 0) = false := by rw [beq_eq_false_iff_ne]; omega
      have n0 : (((r) : Int) != 0) = true := by rw [bne, d0]; rfl
      first
        | (exfalso; omega)
        | (go_enter Try.func56, Try.ntmps56
           go_wp2_with fail
           go_ret
           first
             | exact ⟨by (rw [decide_eq_true (p := Is.right p r) (by first | exact .inl (by omega) | exact .inr ⟨hp, by omega⟩)]) <;> rfl, rfl⟩
             | exact ⟨by (rw [decide_eq_false (p := Is.right p r) (fun h => by rcases h with h | ⟨h, h2⟩ <;> first | omega | exact absurd h hp)]) <;> rfl, rfl⟩)
set_option maxRecDepth 100000 in
theorem inR_any (op : Nat) (n : Int) (w : World) : Calls Try.prog 61 #[.int .u8 op, .int .i32 n] w fun e w' => e = .returned (.bool (decide (Is.inR op n))) ∧ w = w' := by
  by_cases hu : Is.uns op
  · by_cases c0 : 0 ≤ n
    · have d0 : (0 : Int) ≤ (n : Int) := by omega
      by_cases c1 : n ≤ 65535
      · have d1 : (n : Int) ≤ 65535 := by omega
        first
          | (exfalso; omega)
          | (go_enter Try.func61, Try.ntmps61
             go_wp2_with fail
             refine (uns_any op _).mono ?_
             rintro e w1 ⟨rfl, rfl⟩
             first | rw [decide_eq_true hu] | rw [decide_eq_false hu]
             go_wp2_with fail
             go_ret
             first
               | exact ⟨by (rw [decide_eq_true (p := Is.inR op n) (by first | exact .inl ⟨hu, by omega, by omega⟩ | exact .inr ⟨hu, by omega, by omega⟩)]) <;> rfl, rfl⟩
               | exact ⟨by (rw [decide_eq_false (p := Is.inR op n) (fun h => by rcases h with ⟨h, h1, h2⟩ | ⟨h, h1, h2⟩ <;> first | omega | exact absurd h hu | exact absurd hu h)]) <;> rfl, rfl⟩)
      · have d1 : ¬ (n : Int) ≤ 65535 := by omega
        have e1 : decide ((n : Int) ≤ 65535) = false := by rw [decide_eq_false_iff_not]; omega
        first
          | (exfalso; omega)
          | (go_enter Try.func61, Try.ntmps61
             go_wp2_with fail
             refine (uns_any op _).mono ?_
             rintro e w1 ⟨rfl, rfl⟩
             first | rw [decide_eq_true hu] | rw [decide_eq_false hu]
             go_wp2_with fail
             go_ret
             first
               | exact ⟨by (rw [decide_eq_true (p := Is.inR op n) (by first | exact .inl ⟨hu, by omega, by omega⟩ | exact .inr ⟨hu, by omega, by omega⟩)]) <;> rfl, rfl⟩
               | exact ⟨by (rw [decide_eq_false (p := Is.inR op n) (fun h => by rcases h with ⟨h, h1, h2⟩ | ⟨h, h1, h2⟩ <;> first | omega | exact absurd h hu | exact absurd hu h)]) <;> rfl, rfl⟩)
    · have d0 : ¬ (0 : Int) ≤ (n : Int) := by omega
      have e0 : decide ((0 : Int) ≤ (n : Int)) = false := by rw [decide_eq_false_iff_not]; omega
      by_cases c1 : n ≤ 65535
      · have d1 : (n : Int) ≤ 65535 := by omega
        first
          | (exfalso; omega)
          | (go_enter Try.func61, Try.ntmps61
             go_wp2_with fail
             refine (uns_any op _).mono ?_
             rintro e w1 ⟨rfl, rfl⟩
             first | rw [decide_eq_true hu] | rw [decide_eq_false hu]
             go_wp2_with fail
             go_ret
             first
               | exact ⟨by (rw [decide_eq_true (p := Is.inR op n) (by first | exact .inl ⟨hu, by omega, by omega⟩ | exact .inr ⟨hu, by omega, by omega⟩)]) <;> rfl, rfl⟩
               | exact ⟨by (rw [decide_eq_false (p := Is.inR op n) (fun h => by rcases h with ⟨h, h1, h2⟩ | ⟨h, h1, h2⟩ <;> first | omega | exact absurd h hu | exact absurd hu h)]) <;> rfl, rfl⟩)
      · have d1 : ¬ (n : Int) ≤ 65535 := by omega
        have e1 : decide ((n : Int) ≤ 65535) = false := by rw [decide_eq_false_iff_not]; omega
        first
          | (exfalso; omega)
          | (go_enter Try.func61, Try.ntmps61
             go_wp2_with fail
             refine (uns_any op _).mono ?_
             rintro e w1 ⟨rfl, rfl⟩
             first | rw [decide_eq_true hu] | rw [decide_eq_false hu]
             go_wp2_with fail
             go_ret
             first
               | exact ⟨by (rw [decide_eq_true (p := Is.inR op n) (by first | exact .inl ⟨hu, by omega, by omega⟩ | exact .inr ⟨hu, by omega, by omega⟩)]) <;> rfl, rfl⟩
               | exact ⟨by (rw [decide_eq_false (p := Is.inR op n) (fun h => by rcases h with ⟨h, h1, h2⟩ | ⟨h, h1, h2⟩ <;> first | omega | exact absurd h hu | exact absurd hu h)]) <;> rfl, rfl⟩)
  · by_cases c0 : (-32768) ≤ n
    · have d0 : ((-32768) : Int) ≤ (n : Int) := by omega
      by_cases c1 : n ≤ 32767
      · have d1 : (n : Int) ≤ 32767 := by omega
        first
          | (exfalso; omega)
          | (go_enter Try.func61, Try.ntmps61
             go_wp2_with fail
             refine (uns_any op _).mono ?_
             rintro e w1 ⟨rfl, rfl⟩
             first | rw [decide_eq_true hu] | rw [decide_eq_false hu]
             go_wp2_with fail
             go_ret
             first
               | exact ⟨by (rw [decide_eq_true (p := Is.inR op n) (by first | exact .inl ⟨hu, by omega, by omega⟩ | exact .inr ⟨hu, by omega, by omega⟩)]) <;> rfl, rfl⟩
               | exact ⟨by (rw [decide_eq_false (p := Is.inR op n) (fun h => by rcases h with ⟨h, h1, h2⟩ | ⟨h, h1, h2⟩ <;> first | omega | exact absurd h hu | exact absurd hu h)]) <;> rfl, rfl⟩)
      · have d1 : ¬ (n : Int) ≤ 32767 := by omega
        have e1 : decide ((n : Int) ≤ 32767) = false := by rw [decide_eq_false_iff_not]; omega
        first
          | (exfalso; omega)
          | (go_enter Try.func61, Try.ntmps61
             go_wp2_with fail
             refine (uns_any op _).mono ?_
             rintro e w1 ⟨rfl, rfl⟩
             first | rw [decide_eq_true hu] | rw [decide_eq_false hu]
             go_wp2_with fail
             go_ret
             first
               | exact ⟨by (rw [decide_eq_true (p := Is.inR op n) (by first | exact .inl ⟨hu, by omega, by omega⟩ | exact .inr ⟨hu, by omega, by omega⟩)]) <;> rfl, rfl⟩
               | exact ⟨by (rw [decide_eq_false (p := Is.inR op n) (fun h => by rcases h with ⟨h, h1, h2⟩ | ⟨h, h1, h2⟩ <;> first | omega | exact absurd h hu | exact absurd hu h)]) <;> rfl, rfl⟩)
    · have d0 : ¬ ((-32768) : Int) ≤ (n : Int) := by omega
      have e0 : decide (((-32768) : Int) ≤ (n : Int)) = false := by rw [decide_eq_false_iff_not]; omega
      by_cases c1 : n ≤ 32767
      · have d1 : (n : Int) ≤ 32767 := by omega
        first
          | (exfalso; omega)
          | (go_enter Try.func61, Try.ntmps61
             go_wp2_with fail
             refine (uns_any op _).mono ?_
             rintro e w1 ⟨rfl, rfl⟩
             first | rw [decide_eq_true hu] | rw [decide_eq_false hu]
             go_wp2_with fail
             go_ret
             first
               | exact ⟨by (rw [decide_eq_true (p := Is.inR op n) (by first | exact .inl ⟨hu, by omega, by omega⟩ | exact .inr ⟨hu, by omega, by omega⟩)]) <;> rfl, rfl⟩
               | exact ⟨by (rw [decide_eq_false (p := Is.inR op n) (fun h => by rcases h with ⟨h, h1, h2⟩ | ⟨h, h1, h2⟩ <;> first | omega | exact absurd h hu | exact absurd hu h)]) <;> rfl, rfl⟩)
      · have d1 : ¬ (n : Int) ≤ 32767 := by omega
        have e1 : decide ((n : Int) ≤ 32767) = false := by rw [decide_eq_false_iff_not]; omega
        first
          | (exfalso; omega)
          | (go_enter Try.func61, Try.ntmps61
             go_wp2_with fail
             refine (uns_any op _).mono ?_
             rintro e w1 ⟨rfl, rfl⟩
             first | rw [decide_eq_true hu] | rw [decide_eq_false hu]
             go_wp2_with fail
             go_ret
             first
               | exact ⟨by (rw [decide_eq_true (p := Is.inR op n) (by first | exact .inl ⟨hu, by omega, by omega⟩ | exact .inr ⟨hu, by omega, by omega⟩)]) <;> rfl, rfl⟩
               | exact ⟨by (rw [decide_eq_false (p := Is.inR op n) (fun h => by rcases h with ⟨h, h1, h2⟩ | ⟨h, h1, h2⟩ <;> first | omega | exact absurd h hu | exact absurd hu h)]) <;> rfl, rfl⟩)
end Go.Proofs.Ytkbelpkmlmfedaa.Is2
