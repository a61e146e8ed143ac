/-
  Arrays as values: a whole one read out of a block and laid into one, and handed back.
-/
import Derived.Test.YtaoaebdjinlcnaaDoorCCs
import Derived.Deep.LoopGhost
import Derived.Deep.WholeRow
import Derived.Laws.Rows
import Derived.Laws.Tables
set_option linter.unusedVariables false
set_option linter.unusedSimpArgs false
set_option maxRecDepth 100000
namespace Go.Proofs.YtaoaebdjinlcnaaDoor.Ci
open Go.RowKit
theorem Own.new' (w : World) (t : TypeId) (cs : Array Value) {g : Nat} (h : g = w.heap.size) : Own (w.alloc (.cells cs t)) g t cs := by subst h; exact Own.new _ _ _
theorem Own.row {w : World} {g : Nat} {t : TypeId} {cs : Array Value} (h : Own w g t cs) (c : Array Value) : Own (w.setRow g c) g t c := by
  unfold Own at h ⊢
  simp [World.setRow, Array.getElem?_modify, h]
theorem heap_setRow (w : World) (g : Nat) (c : Array Value) (k : Nat) (h : k ≠ g) : (w.setRow g c).heap[k]? = w.heap[k]? := by
  simp only [World.setRow, Array.getElem?_modify]
  rw [if_neg (by omega)]
theorem Own.rowOther {w : World} {g : Nat} {t : TypeId} {cs : Array Value} (h : Own w g t cs) (p : Nat) (c : Array Value) (hp : g ≠ p) : Own (w.setRow p c) g t cs := h.kept (heap_setRow _ _ _ _ hp)
theorem Only.row {g : Nat} {a w : World} (h : Only g a w) (c : Array Value) : Only g a (w.setRow g c) :=
  h.trans ⟨rfl, rfl, rfl, by simp [World.setRow], fun k hk => heap_setRow _ _ _ _ hk⟩
theorem below_row {B : Nat} {a w : World} (h : Below B a w) {g : Nat} (hg : B ≤ g) (c : Array Value) : Below B a (w.setRow g c) :=
  h.trans ⟨rfl, rfl, rfl, by simp [World.setRow], fun k hk => heap_setRow _ _ _ _ (by omega)⟩
theorem Below.own {B : Nat} {a w : World} (h : Below B a w) {g : Nat} {t : TypeId} {cs : Array Value} (o : Own a g t cs) (hg : g < B) : Own w g t cs := o.kept (h.block g hg)
theorem vs_one (k : IntKind) (l : List Nat) : (vs k l).all (·.oneCell') = true := by
  unfold vs
  simp [Value.oneCell']
/-- an array's type: so many cells -/
structure ArrT (ty : TypeId) (n : Nat) : Prop where
  und : ∃ e, Tryd.prog.underlying ty = some (.array n e)
  siz : (Tryd.prog.info? ty).map (·.size) = some n
theorem t23 : ArrT 24 32 := ⟨⟨_, Tryd.underlying24⟩, by kernel_rfl⟩
theorem t24 : ArrT 54 12 := ⟨⟨_, Tryd.underlying54⟩, by kernel_rfl⟩
theorem t27 : ArrT 90 64 := ⟨⟨_, Tryd.underlying90⟩, by kernel_rfl⟩
theorem t38 : ArrT 110 16 := ⟨⟨_, Tryd.underlying110⟩, by kernel_rfl⟩
theorem t43 : ArrT 102 16 := ⟨⟨_, Tryd.underlying102⟩, by kernel_rfl⟩
theorem ld {ty : TypeId} {n : Nat} (T : ArrT ty n) {ops : Array Oper} {rest : List Oper} {o : Oper} {a : Act} {w : World} {Q : Exit → Act → World → Prop} {x : Operand} {g : Nat} {t : TypeId} {k : IntKind} {l : List Nat}
    (hgd : o.guard = none) (ho : o.op = .load ty x) (hx : a.eval x = .pointer (some ⟨g, 0, none⟩)) (hg : Own w g t (vs k l)) (hl : l.length = n)
    (h : wpList Tryd.prog ops Q rest (a.put o.dst (.agg (vs k l))) w) : wpList Tryd.prog ops Q (o :: rest) a w := by
  obtain ⟨e, hu⟩ := T.und
  exact wpList_load_row hgd ty x ho g hx t (vs k l) (0, 0) _ hg hu rfl (by rw [T.siz, vs_size, hl]) h
theorem sto {ty : TypeId} {n : Nat} (T : ArrT ty n) {ops : Array Oper} {rest : List Oper} {o : Oper} {a : Act} {w : World} {Q : Exit → Act → World → Prop} {x y : Operand} {g : Nat} {t : TypeId} {k k' : IntKind} {l l' : List Nat}
    (hgd : o.guard = none) (ho : o.op = .store ty x y) (hx : a.eval x = .pointer (some ⟨g, 0, none⟩)) (hy : a.eval y = .agg (vs k l)) (hg : Own w g t (vs k' l')) (hl' : l'.length = n) (hl : l.length = n)
    (h : wpList Tryd.prog ops Q rest (a.put o.dst undef) (w.setRow g (vs k l))) : wpList Tryd.prog ops Q (o :: rest) a w :=
  wpList_store_row hgd ty x y ho g (vs k l) hx hy t (vs k' l') hg (by rw [T.siz, vs_size, hl]) (by rw [vs_size, vs_size, hl, hl']) (vs_one k l) h
theorem sto_new {ty : TypeId} {n : Nat} (T : ArrT ty n) {ops : Array Oper} {rest : List Oper} {o : Oper} {a : Act} {w : World} {c : Array Value} {t : TypeId} {Q : Exit → Act → World → Prop} {x y : Operand} {k : IntKind} {l : List Nat} {g : Nat}
    (hgd : o.guard = none) (ho : o.op = .store ty x y) (hx : a.eval x = .pointer (some ⟨g, 0, none⟩)) (hg : g = w.heap.size) (hy : a.eval y = .agg (vs k l)) (hc : c.size = n) (hl : l.length = n)
    (h : wpList Tryd.prog ops Q rest (a.put o.dst undef) (w.alloc (.cells (vs k l) t))) : wpList Tryd.prog ops Q (o :: rest) a (w.alloc (.cells c t)) := by
  subst hg
  exact wpList_store_row hgd ty x y ho w.heap.size (vs k l) hx hy t c (Own.new w t c) (by rw [T.siz, vs_size, hl]) (by rw [vs_size, hc, hl]) (vs_one k l) (by rw [World.setRow_alloc_new]; exact h)
theorem ret_arr {ty : TypeId} {n : Nat} (T : ArrT ty n) {fn : Func} {p : Tmp} {R : Ending → World → Prop} {a : Act} {w : World} {g : Nat} {t : TypeId} {k : IntKind} {l : List Nat}
    (hr : fn.results = #[.cell p ty]) (hp : a.tmps.getD p undef = .pointer (some ⟨g, 0, none⟩)) (hg : Own w g t (vs k l)) (hl : l.length = n) (hd : a.defers = [])
    (hR : R (.returned (.agg (vs k l))) w) : bodyPost Tryd.prog fn R .ret a w := by
  obtain ⟨e, hu⟩ := T.und
  exact bodyPost_ret (results_cell_row hr a.tmps w g t (vs k l) (0, 0) _ hp hg hu rfl (by rw [T.siz, vs_size, hl])) hd hR
end Go.Proofs.YtaoaebdjinlcnaaDoor.Ci
