/-
  What seal's laws are walked with: the arguments read, what is held of the blocks.
-/
import Derived.Test.YtdmlfibnhcdhkaaDoorSq
import Derived.OpenShut
namespace Go.Proofs.YtdmlfibnhcdhkaaDoor
open Go.RowKit
theorem okNon {W : World} {base : Nat} {v : Value} (h : Value.okWide Tryd.prog W .any base 24 v) : ∃ K : List Nat, v = .agg (vs .u8 K) ∧ K.length = 12 ∧ Bl.By K := okArr tN (by kernel_rfl) (by kernel_rfl) h
/-- two keys lie in the call's first two blocks -/
structure Kk (w wr : World) (K L : List Nat) : Prop where
  k : Own wr w.heap.size 23 (vs .u8 K)
  l : Own wr (w.heap.size + 1) 23 (vs .u8 L)
  b : Below w.heap.size w wr
theorem Kk.below {w wr w1 : World} {K L : List Nat} (o : Kk w wr K L) (hx : Below wr.heap.size wr w1) : Kk w w1 K L := ⟨Below.own hx o.k o.k.lt, Below.own hx o.l o.l.lt, o.b.trans (hx.mono o.b.size)⟩
theorem Kk.new (w : World) (K L : List Nat) : Kk w ((w.alloc (Obj.cells (vs .u8 K) 23)).alloc (Obj.cells (vs .u8 L) 23)) K L :=
  ⟨(Own.new _ _ _).alloc _, Own.new' _ _ _ (by simp), ((Below.refl _ w).alloc (Nat.le_refl _) _).alloc (by simp) _⟩
/-- where a box is refused, no data come out -/
theorem openD_none (K : List Nat) (h x : ByteArray) : (openD K h x).2 = 0 ∨ (openD K h x).1 = ⟨#[]⟩ := by
  unfold openD
  split
  · exact .inr rfl
  · split
    · exact .inl rfl
    · exact .inr rfl
theorem eq_arrN (L M : List Nat) (hl : L.length = 12) (hm : M.length = 12) (w : World) : (Op.equalIn 10000 24 (.agg (vs .u8 L)) (.agg (vs .u8 M))).run Tryd.prog w = .ok (decide (L = M)) w := by
  obtain ⟨i, hi, _⟩ := Option.map_eq_some_iff.1 info5b
  rw [show (10000 : Nat) = 9999 + 1 from rfl, run_equalIn_array (w := w) 9999 (vs .u8 L) (vs .u8 M) Tryd.underlying24 hi, show Tryd.prog.cellsOf 5 = 1 from by kernel_rfl]
  rw [eq_items L M 9998 w (by omega) _ fun j hj => by rw [hl]; exact List.mem_range.1 hj]
  have := nth_ext (L := L) (M := M) (by omega)
  rw [hl] at this
  simp only [this]
theorem exec_eqN (L M : List Nat) (hl : L.length = 12) (hm : M.length = 12) (w : World) (ρ : Operand → Value) (x y : Operand) (hx : ρ x = .agg (vs .u8 L)) (hy : ρ y = .agg (vs .u8 M)) (o : Oper) (ho : o.op = .binOp .eql 24 x y 24) : (execOp ρ o).run Tryd.prog w = .ok (.value (.bool (decide (L = M)))) w := by
  have hq := eq_arrN L M hl hm
  have hg := run_eqGuard_agg (P := Tryd.prog) (w := w) .eql 24 x y (vs .u8 L) (vs .u8 M) (by kernel_rfl)
  have hb : (binOp .eql 24 (.agg (vs .u8 L)) (.agg (vs .u8 M))).run Tryd.prog w = .ok (.bool (decide (L = M))) w := by
    show (do pure (Value.bool (← Op.equal 24 (.agg (vs .u8 L)) (.agg (vs .u8 M)))) : Sem Value).run Tryd.prog w = _
    simp only [Sem.run_bind]
    rw [show (Op.equal 24 (Value.agg (vs .u8 L)) (Value.agg (vs .u8 M))) = Op.equalIn 10000 24 (.agg (vs .u8 L)) (.agg (vs .u8 M)) from rfl, hq w]
    simp
  unfold execOp
  simp only [ho, hx, hy, Sem.run_bind, hg, hb, Result.andThen_ok, Sem.run_pure]
theorem exec_sameN (L : List Nat) (hl : L.length = 12) (w : World) (ρ : Operand → Value) (x y : Operand) (hx : ρ x = .agg (vs .u8 L)) (hy : ρ y = .agg (vs .u8 L)) (o : Oper) (ho : o.op = .binOp .eql 24 x y 24) : (execOp ρ o).run Tryd.prog w = .ok (.value (.bool true)) w := by
  have := exec_eqN L L hl hl w ρ x y hx hy o ho
  simpa using this
/-- the key in the call's first block, a nonce in one of its own -/
structure Kn (w wr : World) (K : List Nat) (g : Nat) (M : List Nat) : Prop where
  k : Own wr w.heap.size 23 (vs .u8 K)
  n : Own wr g 24 (vs .u8 M)
  b : Below w.heap.size w wr
theorem Kn.below {w wr w1 : World} {K M : List Nat} {g : Nat} (o : Kn w wr K g M) (hx : Below wr.heap.size wr w1) : Kn w w1 K g M := ⟨Below.own hx o.k o.k.lt, Below.own hx o.n o.n.lt, o.b.trans (hx.mono o.b.size)⟩
theorem Kn.drew {w wr : World} {K M : List Nat} {g : Nat} (o : Kn w wr K g M) : Kn w wr.drew K g M := ⟨o.k, o.n, o.b.drew⟩
theorem box_front {K N : List Nat} {h d : ByteArray} (bN : Bl.By N) (lN : N.length = 12) : (boxD K N h d).extract 0 12 = bs N := tn_inj (by
  rw [tn_extract, tn_box bN, List.drop_zero, List.take_left' lN, tn_bs bN])
end Go.Proofs.YtdmlfibnhcdhkaaDoor
