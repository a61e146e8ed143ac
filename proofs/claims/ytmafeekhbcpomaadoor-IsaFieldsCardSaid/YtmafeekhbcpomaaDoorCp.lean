/-
  Two instructions held against each other.
-/
import Derived.Test.YtmafeekhbcpomaaDoorAl
import Derived.ChangeKeysEq
namespace Go.Proofs.YtmafeekhbcpomaaDoor
open Go.RowKit
set_option linter.unusedVariables false
theorem run_eq_ins (x y : Is.Ins) (w : World) : (binOp .eql 23 (.agg (ic x)) (.agg (ic y))).run Tryd.prog w = .ok (.bool (decide (x = y))) w := by
  obtain ⟨o, a, b, c, m⟩ := x
  obtain ⟨o', a', b', c', m'⟩ := y
  have e : ((⟨o, a, b, c, m⟩ : Is.Ins) = ⟨o', a', b', c', m'⟩) ↔ ((o : Int) = o' ∧ (a : Int) = a' ∧ (b : Int) = b' ∧ (c : Int) = c' ∧ m = m') := by
    rw [Is.Ins.mk.injEq]
    omega
  simp only [ic_mk]
  go_simp
  by_cases h1 : (o : Int) = o' <;> by_cases h2 : (a : Int) = a' <;> by_cases h3 : (b : Int) = b' <;> by_cases h4 : (c : Int) = c' <;> by_cases h5 : m = m' <;> simp [h1, h2, h3, h4, h5] <;> omega
theorem run_ne_ins (x y : Is.Ins) (w : World) : (binOp .neq 23 (.agg (ic x)) (.agg (ic y))).run Tryd.prog w = .ok (.bool (decide (x ≠ y))) w := by
  obtain ⟨o, a, b, c, m⟩ := x
  obtain ⟨o', a', b', c', m'⟩ := y
  have e : ((⟨o, a, b, c, m⟩ : Is.Ins) = ⟨o', a', b', c', m'⟩) ↔ ((o : Int) = o' ∧ (a : Int) = a' ∧ (b : Int) = b' ∧ (c : Int) = c' ∧ m = m') := by
    rw [Is.Ins.mk.injEq]
    omega
  simp only [ic_mk]
  go_simp
  by_cases h1 : (o : Int) = o' <;> by_cases h2 : (a : Int) = a' <;> by_cases h3 : (b : Int) = b' <;> by_cases h4 : (c : Int) = c' <;> by_cases h5 : m = m' <;> simp [h1, h2, h3, h4, h5] <;> omega
theorem exec_cmp (neq : Bool) (x y : Is.Ins) (w : World) (ρ : Operand → Value) (p q : Operand) (hx : ρ p = .agg (ic x)) (hy : ρ q = .agg (ic y)) (o : Oper)
    (ho : o.op = .binOp (if neq then .neq else .eql) 23 p q 23) : (execOp ρ o).run Tryd.prog w = .ok (.value (.bool (decide (x = y) != neq))) w := by
  cases neq
  · have hg := run_eqGuard_agg (P := Tryd.prog) (w := w) .eql 23 p q (ic x) (ic y) (by kernel_rfl)
    have hb := run_eq_ins x y w
    simp only [Bool.false_eq_true, if_false] at ho
    unfold execOp
    simp only [ho, hx, hy, Sem.run_bind, hg, hb, Result.andThen_ok, Sem.run_pure]
    simp
  · have hg := run_eqGuard_agg (P := Tryd.prog) (w := w) .neq 23 p q (ic x) (ic y) (by kernel_rfl)
    have hb := run_ne_ins x y w
    simp only [if_true] at ho
    unfold execOp
    simp only [ho, hx, hy, Sem.run_bind, hg, hb, Result.andThen_ok, Sem.run_pure]
    simp
/-- two instructions are compared, in a region that is walked in the text's order -/
theorem cmpw (neq : Bool) {ops : Array Oper} {rest : List Oper} {o : Oper} {a : Act} {w : World} {Q : Exit → Act → World → Prop} {p q : Operand} (x y : Is.Ins)
    (hgd : Region.wanted o (yielded ops a.tmps) = true) (ho : o.op = .binOp (if neq then .neq else .eql) 23 p q 23) (hx : a.eval p = .agg (ic x)) (hy : a.eval q = .agg (ic y))
    (h : wpList Tryd.prog ops Q rest (a.put o.dst (.bool (decide (x = y) != neq))) w) : wpList Tryd.prog ops Q (o :: rest) a w := by
  show (if Region.wanted o (yielded ops a.tmps) then o.wp Tryd.prog a w (wpList Tryd.prog ops Q rest) Q ∨ (o.asks Tryd.prog a w ∧ LetsOut Q) else wpList Tryd.prog ops Q rest (a.put o.dst undef) w)
  rw [if_pos hgd]
  refine .inl ?_
  have e := exec_cmp neq x y w a.eval p q hx hy o ho
  unfold Oper.wp
  rw [e]
  exact h
end Go.Proofs.YtmafeekhbcpomaaDoor
