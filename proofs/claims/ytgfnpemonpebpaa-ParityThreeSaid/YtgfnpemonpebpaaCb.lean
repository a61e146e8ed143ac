/-
  Values of bytes are held against each other: arrays, structs, and arrays within structs.
-/
import Derived.Test.YtgfnpemonpebpaaBa
import Derived.OrdersHeld
import Derived.Laws.StructEq
namespace Go.Proofs.Ytgfnpemonpebpaa
open Go.RowKit
set_option linter.unusedVariables false
set_option linter.unusedSimpArgs false
/-- a type whose values can be held against each other, of bytes alone -/
structure CmpT (t : TypeId) (c : Nat) : Prop where
  by' : ∃ d, ByT d t c
  key : ∃ m, m ≤ 10000 ∧ Try.prog.keyTypeAt m t = true
  form : ∃ d : TypeDesc, Try.prog.underlying t = some d ∧ (match d with | .struct _ | .array _ _ => true | _ => false) = true
  grd : Try.prog.eqGuardType Try.prog.depth t = false
theorem CmpT.formed {t : TypeId} {c : Nat} (T : CmpT t c) {l : List Nat} (hl : l.length = c) : (Value.agg (vs l)).formed Try.prog t = true := by
  obtain ⟨d, hu, hd⟩ := T.form
  obtain ⟨_, hc, _⟩ := T.by'
  cases d <;> simp at hd <;> simp [Value.formed, hu, vs_size, hl, hc]
theorem eq_run {t : TypeId} {c : Nat} (T : CmpT t c) {x y : List Nat} (hx : x.length = c) (hy : y.length = c) (bx : Gf.Bytes x) (by' : Gf.Bytes y) (w : World) :
    (Op.equalIn 10000 t (.agg (vs x)) (.agg (vs y))).run Try.prog w = .ok (decide (x = y)) w := by
  obtain ⟨d, _, hb⟩ := T.by'
  obtain ⟨m, hm, hk⟩ := T.key
  obtain ⟨r, hr, hi⟩ := run_equalIn_deep (10000 - m) m t hk w d d (.agg (vs x)) (.agg (vs y)) (lits x) (lits y) (T.formed hx) (T.formed hy) (hb x hx bx) (hb y hy by')
  rw [Nat.sub_add_cancel hm] at hr
  rw [hr]
  congr 1
  rw [Bool.eq_iff_iff, hi, decide_eq_true_iff]
  exact ⟨lits_inj, fun e => by rw [e]⟩
theorem exec_cmp {t : TypeId} {c : Nat} (T : CmpT t c) (neq : Bool) {x y : List Nat} (hx : x.length = c) (hy : y.length = c) (bx : Gf.Bytes x) (by' : Gf.Bytes y) (w : World) (ρ : Operand → Value) (p q : Operand)
    (hp : ρ p = .agg (vs x)) (hq : ρ q = .agg (vs y)) (o : Oper) {u : TypeId} (ho : o.op = .binOp (if neq then .neq else .eql) t p q u) :
    (execOp ρ o).run Try.prog w = .ok (.value (.bool (decide (x = y) != neq))) w := by
  cases neq
  · have hg := run_eqGuard_agg (P := Try.prog) (w := w) .eql t p q (vs x) (vs y) T.grd
    have hb := run_eql_struct (P := Try.prog) (w := w) t (vs x) (vs y)
    rw [eq_run T hx hy bx by' w] at hb
    simp only [Bool.false_eq_true, if_false] at ho
    unfold execOp
    simp only [ho, hp, hq, Sem.run_bind, hg, hb, Result.andThen_ok, Sem.run_pure]
    simp
  · have hg := run_eqGuard_agg (P := Try.prog) (w := w) .neq t p q (vs x) (vs y) T.grd
    have hb := run_neq_struct (P := Try.prog) (w := w) t (vs x) (vs y)
    rw [eq_run T hx hy bx by' w] at hb
    simp only [if_true] at ho
    unfold execOp
    simp only [ho, hp, hq, Sem.run_bind, hg, hb, Result.andThen_ok, Sem.run_pure]
    simp
theorem cmpw {t : TypeId} {c : Nat} (T : CmpT t c) (neq : Bool) {ops : Array Oper} {rest : List Oper} {o : Oper} {a : Act} {w : World} {Q : Exit → Act → World → Prop} {p q : Operand} {u : TypeId} (x y : List Nat)
    (hgd : Region.wanted o (yielded ops a.tmps) = true) (ho : o.op = .binOp (if neq then .neq else .eql) t p q u) (hp : a.eval p = .agg (vs x)) (hq : a.eval q = .agg (vs y))
    (hx : x.length = c) (hy : y.length = c) (bx : Gf.Bytes x) (by' : Gf.Bytes y)
    (h : wpList Try.prog ops Q rest (a.put o.dst (.bool (decide (x = y) != neq))) w) : wpList Try.prog ops Q (o :: rest) a w := by
  show (if Region.wanted o (yielded ops a.tmps) then o.wp Try.prog a w (wpList Try.prog ops Q rest) Q ∨ (o.asks Try.prog a w ∧ LetsOut Q) else wpList Try.prog ops Q rest (a.put o.dst undef) w)
  rw [if_pos hgd]
  refine .inl ?_
  have e := exec_cmp T neq hx hy bx by' w a.eval p q hp hq o ho
  unfold Oper.wp
  rw [e]
  exact h
theorem ycmp {t : TypeId} {c : Nat} (T : CmpT t c) (neq : Bool) {ops : Array Oper} {o : Oper} {a : Act} {p q : Operand} {u : TypeId} (x y : List Nat)
    (hgd : Region.wanted o (yielded ops a.tmps) = true) (ho : o.op = .binOp (if neq then .neq else .eql) t p q u) (hp : a.eval p = .agg (vs x)) (hq : a.eval q = .agg (vs y))
    (hx : x.length = c) (hy : y.length = c) (bx : Gf.Bytes x) (by' : Gf.Bytes y) : Yields Try.prog ops o (.bool (decide (x = y) != neq)) a :=
  .inl ⟨hgd, fun w => exec_cmp T neq hx hy bx by' w a.eval p q hp hq o ho⟩
theorem yload {ty : TypeId} {n : Nat} (T : AggT ty n) {ops : Array Oper} {S : World → Prop} {op : Oper} {a : Act} (hw : Region.wanted op (yielded ops a.tmps) = true) {x : Operand} (ho : op.op = .load ty x)
    {b o : Nat} (hx : a.eval x = .pointer (some ⟨b, o, none⟩)) (l : List Nat) (hS : ∀ w, S w → Rg w b o l) (hl : l.length = n) : YieldsIf Try.prog ops S op (.agg (vs l)) a := by
  obtain ⟨d, hu, hr, _⟩ := T.und
  exact yieldsIf_load_mid hw ty x ho b o hx (vl l) d hS hu hr (by rw [T.siz, vl_length, hl])
theorem info5b : ∃ i, Try.prog.info? 5 = some i := info_of_underlying Try.underlying5
theorem by5 (d : Nat) : ByT (d + 1) 5 1 := byT_u8 Try.underlying5 (by kernel_rfl) d
end Go.Proofs.Ytgfnpemonpebpaa
