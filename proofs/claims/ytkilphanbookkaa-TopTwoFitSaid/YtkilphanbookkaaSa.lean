/-
  THE WALK of what holds two rows of shares against each other.
-/
import Derived.Test.YtkilphanbookkaaSs
import Derived.StillTailTactics
namespace Go.Proofs.Ytkilphanbookkaa
open Go.RowKit
set_option linter.unusedVariables false
set_option linter.unusedSimpArgs false
theorem exec_ld {ty : TypeId} {n : Nat} (T : AggT ty n) {ρ : Operand → Value} {o : Oper} {w : World} {x : Operand} {b f : Nat} {l : List Nat} (ho : o.op = .load ty x) (hx : ρ x = .pointer (some ⟨b, f, none⟩)) (hg : Rg w b f l) (hl : l.length = n) :
    (execOp ρ o).run Try.prog w = .ok (.value (.agg (vs l))) w := by
  obtain ⟨d, hu, hr, _⟩ := T.und
  have h := run_loadVar_mid (P := Try.prog) w b f ty (vl l) d hg hu hr (by rw [T.siz, vl_length, hl])
  unfold execOp
  simp only [ho, hx, Instr.loadAt, Instr.sureAddr, Sem.run_bind, Sem.run_pure, Result.andThen_ok, h]
  rfl
theorem still_ld {ty : TypeId} {n : Nat} (T : AggT ty n) {ops : Array Oper} {rest : List Oper} {o : Oper} {a : Act} {w : World} {Q : Act → Prop} {x : Operand} {b f : Nat} {l : List Nat} (hw : Region.wanted o (yielded ops a.tmps) = true)
    (ho : o.op = .load ty x) (hx : a.eval x = .pointer (some ⟨b, f, none⟩)) (hg : Rg w b f l) (hl : l.length = n) (h : wpStill Try.prog ops w Q rest (a.put o.dst (.agg (vs l)))) : wpStill Try.prog ops w Q (o :: rest) a :=
  wpStill_step fun K hK => by
    rw [if_pos hw]
    unfold Oper.still
    rw [exec_ld T ho hx hg hl, Oper.stillUpon_value]
    exact hK _ h
theorem still_cmp {t : TypeId} {c : Nat} (T : CmpT t c) (neq : Bool) {ops : Array Oper} {rest : List Oper} {o : Oper} {a : Act} {w : World} {Q : Act → Prop} {p q : Operand} {u : TypeId} (x y : List Nat)
    (hw : Region.wanted o (yielded ops a.tmps) = true) (ho : o.op = .binOp (if neq then .neq else .eql) t p q u) (hp : a.eval p = .agg (vs x)) (hq : a.eval q = .agg (vs y))
    (hx : x.length = c) (hy : y.length = c) (bx : Gf.Bytes x) (by' : Gf.Bytes y) (h : wpStill Try.prog ops w Q rest (a.put o.dst (.bool (decide (x = y) != neq)))) : wpStill Try.prog ops w Q (o :: rest) a :=
  wpStill_step fun K hK => by
    rw [if_pos hw]
    unfold Oper.still
    rw [exec_cmp T neq hx hy bx by' w a.eval p q hp hq o ho, Oper.stillUpon_value]
    exact hK _ h
theorem nthL_ext {l m : List (List Nat)} (h : l.length = m.length) (e : ∀ i, i < l.length → nthL l i = nthL m i) : l = m := by
  apply List.ext_getElem?
  intro i
  by_cases hi : i < l.length
  · rw [nthL_get hi, nthL_get (by omega), e i hi]
  · rw [List.getElem?_eq_none (by omega), List.getElem?_eq_none (by omega)]
end Go.Proofs.Ytkilphanbookkaa
