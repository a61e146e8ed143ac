/-
  Arrays of numbers: as cells, as values; the program's two tables.
-/
import Derived.Test.YtaoaebdjinlcnaaDoorBw
import Derived.StillTailTactics
import Derived.Deep.LoopGhost
import Derived.Deep.WholeRow
import Derived.Laws.Rows
import Derived.Laws.Tables
set_option linter.unusedVariables false
set_option linter.unusedSimpArgs false
set_option maxRecDepth 100000
namespace Go.Proofs.YtaoaebdjinlcnaaDoor
open Go.RowKit
/-- numbers as cells -/
def vs (k : IntKind) (l : List Nat) : Array Value := (l.map fun (n : Nat) => Value.int k (n : Int)).toArray
theorem vs_size (k : IntKind) (l : List Nat) : (vs k l).size = l.length := by simp [vs]
theorem vs_get (k : IntKind) {l : List Nat} {i : Nat} (h : i < l.length) : (vs k l)[i]? = some (.int k (Bl.nth l i : Nat)) := by
  simp [vs, Bl.nth_get h]
theorem vs_set (k : IntKind) (l : List Nat) (i x : Nat) : (vs k l).setIfInBounds i (.int k (x : Int)) = vs k (l.set i x) := by
  simp [vs, List.map_set]
/-- an array of the call's own -/
def Own (w : World) (g : Nat) (t : TypeId) (cs : Array Value) : Prop := w.heap[g]? = some (.cells cs t (0, 0))
theorem Own.cellv {w : World} {g : Nat} {t : TypeId} {cs : Array Value} (h : Own w g t cs) (i : Nat) : w.cell? ⟨g, i, none⟩ = cs[i]? := by
  unfold Own at h; simp [World.cell?, h]
theorem Own.frozen {w : World} {g : Nat} {t : TypeId} {cs : Array Value} (h : Own w g t cs) (i : Nat) : w.frozen? ⟨g, i, none⟩ = false := by
  unfold Own at h; simp [World.frozen?, h]
theorem Own.new (w : World) (t : TypeId) (cs : Array Value) : Own (w.alloc (.cells cs t)) w.heap.size t cs := by
  unfold Own
  show (w.heap.push _)[w.heap.size]? = _
  simp
theorem Own.setv {w : World} {g : Nat} {t : TypeId} {cs : Array Value} (h : Own w g t cs) (i : Nat) (u : Value) : Own (w.setCell ⟨g, i, none⟩ u) g t (cs.setIfInBounds i u) := by
  unfold Own at h ⊢
  simp [World.setCell, Array.getElem?_modify, h]
theorem Own.drew {w : World} {g : Nat} {t : TypeId} {cs : Array Value} (h : Own w g t cs) : Own w.drew g t cs := h
theorem Own.lt {w : World} {g : Nat} {t : TypeId} {cs : Array Value} (h : Own w g t cs) : g < w.heap.size := by
  unfold Own at h
  rcases Nat.lt_or_ge g w.heap.size with h' | h'
  · exact h'
  · rw [Array.getElem?_eq_none h'] at h; cases h
theorem Own.kept {w w' : World} {g : Nat} {t : TypeId} {cs : Array Value} (h : Own w g t cs) (hb : w'.heap[g]? = w.heap[g]?) : Own w' g t cs := by
  unfold Own; rw [hb]; exact h
theorem Own.alloc {w : World} {g : Nat} {t : TypeId} {cs : Array Value} (h : Own w g t cs) (o : Obj) : Own (w.alloc o) g t cs := h.kept (Below.heap_alloc _ _ _ h.lt)
theorem Own.other {w : World} {g : Nat} {t : TypeId} {cs : Array Value} (h : Own w g t cs) (p : Addr) (u : Value) (hp : g ≠ p.block) : Own (w.setCell p u) g t cs := h.kept (Below.heap_setCell _ _ _ _ hp)
theorem Own.cell {w : World} {g : Nat} {t : TypeId} {k : IntKind} {l : List Nat} (h : Own w g t (vs k l)) {i : Nat} (hi : i < l.length) : w.cell? ⟨g, i, none⟩ = some (.int k (Bl.nth l i : Nat)) := by
  rw [h.cellv, vs_get k hi]
theorem Own.set {w : World} {g : Nat} {t : TypeId} {k : IntKind} {l : List Nat} (h : Own w g t (vs k l)) (i x : Nat) : Own (w.setCell ⟨g, i, none⟩ (.int k (x : Int))) g t (vs k (l.set i x)) := by
  rw [← vs_set]; exact h.setv i _
/-- but for one block the world is as it was -/
structure Only (g : Nat) (w w' : World) : Prop where
  os : w'.os = w.os
  tape : w'.tape = w.tape
  output : w'.output = w.output
  size : w'.heap.size = w.heap.size
  block : ∀ k, k ≠ g → w'.heap[k]? = w.heap[k]?
theorem Only.refl (g : Nat) (w : World) : Only g w w := ⟨rfl, rfl, rfl, rfl, fun _ _ => rfl⟩
theorem Only.trans {g : Nat} {a b c : World} (h : Only g a b) (k : Only g b c) : Only g a c :=
  ⟨k.os.trans h.os, k.tape.trans h.tape, k.output.trans h.output, k.size.trans h.size, fun i hi => (k.block i hi).trans (h.block i hi)⟩
theorem Only.drew {g : Nat} {a w : World} (h : Only g a w) : Only g a w.drew := ⟨h.os, h.tape, h.output, h.size, h.block⟩
theorem Only.set {g : Nat} {a w : World} (h : Only g a w) (i : Nat) (u : Value) : Only g a (w.setCell ⟨g, i, none⟩ u) :=
  h.trans ⟨rfl, rfl, rfl, by simp [World.setCell], fun k hk => Below.heap_setCell _ _ _ _ hk⟩
theorem Only.below {g : Nat} {a w : World} (h : Only g a w) {B : Nat} (hB : B ≤ g) : Below B a w := ⟨h.os, h.tape, h.output, by rw [h.size]; exact Nat.le_refl _, fun k hk => h.block k (by omega)⟩
theorem Own.new' (w : World) (t : TypeId) (cs : Array Value) {g : Nat} (h : g = w.heap.size) : Own (w.alloc (.cells cs t)) g t cs := by subst h; exact Own.new _ _ _
theorem Own.row {w : World} {g : Nat} {t : TypeId} {cs : Array Value} (h : Own w g t cs) (c : Array Value) : Own (w.setRow g c) g t c := by
  unfold Own at h ⊢
  simp [World.setRow, Array.getElem?_modify, h]
theorem heap_setRow (w : World) (g : Nat) (c : Array Value) (k : Nat) (h : k ≠ g) : (w.setRow g c).heap[k]? = w.heap[k]? := by
  simp only [World.setRow, Array.getElem?_modify]
  rw [if_neg (by omega)]
theorem Own.rowOther {w : World} {g : Nat} {t : TypeId} {cs : Array Value} (h : Own w g t cs) (p : Nat) (c : Array Value) (hp : g ≠ p) : Own (w.setRow p c) g t cs := h.kept (heap_setRow _ _ _ _ hp)
theorem Only.row {g : Nat} {a w : World} (h : Only g a w) (c : Array Value) : Only g a (w.setRow g c) :=
  h.trans ⟨rfl, rfl, rfl, by simp [World.setRow], fun k hk => heap_setRow _ _ _ _ hk⟩
theorem below_row {B : Nat} {a w : World} (h : Below B a w) {g : Nat} (hg : B ≤ g) (c : Array Value) : Below B a (w.setRow g c) :=
  h.trans ⟨rfl, rfl, rfl, by simp [World.setRow], fun k hk => heap_setRow _ _ _ _ (by omega)⟩
theorem Below.own {B : Nat} {a w : World} (h : Below B a w) {g : Nat} {t : TypeId} {cs : Array Value} (o : Own a g t cs) (hg : g < B) : Own w g t cs := o.kept (h.block g hg)
theorem vs_one (k : IntKind) (l : List Nat) : (vs k l).all (·.oneCell') = true := by
  unfold vs
  simp [Value.oneCell']
/-- an array's type: so many cells -/
structure ArrT (ty : TypeId) (n : Nat) : Prop where
  und : ∃ e, Tryd.prog.underlying ty = some (.array n e)
  siz : (Tryd.prog.info? ty).map (·.size) = some n
theorem t24 : ArrT 64 32 := ⟨⟨_, Tryd.underlying64⟩, by kernel_rfl⟩
theorem t28 : ArrT 24 32 := ⟨⟨_, Tryd.underlying24⟩, by kernel_rfl⟩
theorem t42 : ArrT 88 8 := ⟨⟨_, Tryd.underlying88⟩, by kernel_rfl⟩
theorem t58 : ArrT 90 64 := ⟨⟨_, Tryd.underlying90⟩, by kernel_rfl⟩
theorem t63 : ArrT 110 16 := ⟨⟨_, Tryd.underlying110⟩, by kernel_rfl⟩
theorem ld {ty : TypeId} {n : Nat} (T : ArrT ty n) {ops : Array Oper} {rest : List Oper} {o : Oper} {a : Act} {w : World} {Q : Exit → Act → World → Prop} {x : Operand} {g : Nat} {t : TypeId} {k : IntKind} {l : List Nat}
    (hgd : o.guard = none) (ho : o.op = .load ty x) (hx : a.eval x = .pointer (some ⟨g, 0, none⟩)) (hg : Own w g t (vs k l)) (hl : l.length = n)
    (h : wpList Tryd.prog ops Q rest (a.put o.dst (.agg (vs k l))) w) : wpList Tryd.prog ops Q (o :: rest) a w := by
  obtain ⟨e, hu⟩ := T.und
  exact wpList_load_row hgd ty x ho g hx t (vs k l) (0, 0) _ hg hu rfl (by rw [T.siz, vs_size, hl]) h
theorem sto {ty : TypeId} {n : Nat} (T : ArrT ty n) {ops : Array Oper} {rest : List Oper} {o : Oper} {a : Act} {w : World} {Q : Exit → Act → World → Prop} {x y : Operand} {g : Nat} {t : TypeId} {k k' : IntKind} {l l' : List Nat}
    (hgd : o.guard = none) (ho : o.op = .store ty x y) (hx : a.eval x = .pointer (some ⟨g, 0, none⟩)) (hy : a.eval y = .agg (vs k l)) (hg : Own w g t (vs k' l')) (hl' : l'.length = n) (hl : l.length = n)
    (h : wpList Tryd.prog ops Q rest (a.put o.dst undef) (w.setRow g (vs k l))) : wpList Tryd.prog ops Q (o :: rest) a w :=
  wpList_store_row hgd ty x y ho g (vs k l) hx hy t (vs k' l') hg (by rw [T.siz, vs_size, hl]) (by rw [vs_size, vs_size, hl, hl']) (vs_one k l) h
theorem sto_new {ty : TypeId} {n : Nat} (T : ArrT ty n) {ops : Array Oper} {rest : List Oper} {o : Oper} {a : Act} {w : World} {c : Array Value} {t : TypeId} {Q : Exit → Act → World → Prop} {x y : Operand} {k : IntKind} {l : List Nat} {g : Nat}
    (hgd : o.guard = none) (ho : o.op = .store ty x y) (hx : a.eval x = .pointer (some ⟨g, 0, none⟩)) (hg : g = w.heap.size) (hy : a.eval y = .agg (vs k l)) (hc : c.size = n) (hl : l.length = n)
    (h : wpList Tryd.prog ops Q rest (a.put o.dst undef) (w.alloc (.cells (vs k l) t))) : wpList Tryd.prog ops Q (o :: rest) a (w.alloc (.cells c t)) := by
  subst hg
  exact wpList_store_row hgd ty x y ho w.heap.size (vs k l) hx hy t c (Own.new w t c) (by rw [T.siz, vs_size, hl]) (by rw [vs_size, hc, hl]) (vs_one k l) (by rw [World.setRow_alloc_new]; exact h)
theorem ret_arr {ty : TypeId} {n : Nat} (T : ArrT ty n) {fn : Func} {p : Tmp} {R : Ending → World → Prop} {a : Act} {w : World} {g : Nat} {t : TypeId} {k : IntKind} {l : List Nat}
    (hr : fn.results = #[.cell p ty]) (hp : a.tmps.getD p undef = .pointer (some ⟨g, 0, none⟩)) (hg : Own w g t (vs k l)) (hl : l.length = n) (hd : a.defers = [])
    (hR : R (.returned (.agg (vs k l))) w) : bodyPost Tryd.prog fn R .ret a w := by
  obtain ⟨e, hu⟩ := T.und
  exact bodyPost_ret (results_cell_row hr a.tmps w g t (vs k l) (0, 0) _ hp hg hu rfl (by rw [T.siz, vs_size, hl])) hd hR
theorem Only.own {b : Nat} {a w : World} (h : Only b a w) {g : Nat} {t : TypeId} {cs : Array Value} (o : Own a g t cs) (hg : g ≠ b) : Own w g t cs := o.kept (h.block g hg)
/-- the first i numbers of n, and zeros -/
def prn (n : Nat) (F : List Nat) (i : Nat) : List Nat := F.take i ++ List.replicate (n - i) 0
theorem prn_length {n : Nat} {F : List Nat} (h : F.length = n) {i : Nat} (hi : i ≤ n) : (prn n F i).length = n := by simp [prn, h]; omega
theorem prn_next {n : Nat} {F : List Nat} (h : F.length = n) {i : Nat} (hi : i < n) : (prn n F i).set i (Bl.nth F i) = prn n F (i + 1) := by
  have e : n - i = (n - (i + 1)) + 1 := by omega
  have l : (F.take i).length = i := by rw [List.length_take]; omega
  unfold prn
  rw [e, List.replicate_succ, List.set_append_right _ _ (by omega), l, Nat.sub_self, List.set_cons_zero, List.take_succ_eq_append_getElem (by omega), Bl.nth_lt (by omega), List.append_assoc]
  rfl
theorem prn_all {n : Nat} {F : List Nat} (h : F.length = n) : prn n F n = F := by unfold prn; rw [List.take_of_length_le (by omega)]; simp
theorem prn_zero (n : Nat) (F : List Nat) : prn n F 0 = List.replicate n 0 := by simp [prn]
theorem sto2 {ty : TypeId} {n : Nat} (T : ArrT ty n) {ops : Array Oper} {rest : List Oper} {o : Oper} {a : Act} {w : World} {Q : Exit → Act → World → Prop} {x y : Operand} {g : Nat} {t : TypeId} {k k' : IntKind} {l l' : List Nat}
    (hgd : o.guard = none) (hd : o.dst = none) (ho : o.op = .store ty x y) (hx : a.eval x = .pointer (some ⟨g, 0, none⟩)) (hy : a.eval y = .agg (vs k l)) (hg : Own w g t (vs k' l')) (hl' : l'.length = n) (hl : l.length = n)
    (h : wpList Tryd.prog ops Q rest a (w.setRow g (vs k l))) : wpList Tryd.prog ops Q (o :: rest) a w :=
  sto T hgd ho hx hy hg hl' hl (by rw [hd]; exact h)
/-- the program's tables -/
def Tab (w : World) : Prop := (∀ i, i < 8 → w.cell? ⟨0, i, none⟩ = some (.int .u32 (Bl.nth Bl.iv i : Nat))) ∧ ∀ r i, r < 10 → i < 16 → w.cell? ⟨2, 16 * r + i, none⟩ = some (.int .u8 (Bl.sg r i : Nat))
theorem cell_below {w w' : World} {p : Addr} {v : Value} (h : w.cell? p = some v) (hx : Below w.heap.size w w') : w'.cell? p = some v := (hx.cell (World.block_lt_of_cell? _ _ h)).trans h
theorem Tab.below {w w' : World} (h : Tab w) (hx : Below w.heap.size w w') : Tab w' := ⟨fun i hi => cell_below (h.1 i hi) hx, fun r i hr hi => cell_below (h.2 r i hr hi) hx⟩
theorem Tab.drewN {w : World} (h : Tab w) (n : Nat) : Tab (w.drewN n) := h
theorem Tab.lt {w : World} (h : Tab w) : 2 < w.heap.size := World.block_lt_of_cell? _ _ (h.2 0 0 (by decide) (by decide))
theorem Tab.only {g : Nat} {w w' : World} (h : Tab w) (hx : Only g w w') (hg : 2 < g) : Tab w' :=
  ⟨fun i hi => (World.cell?_of_block (hx.block 0 (by omega))).trans (h.1 i hi), fun r i hr hi => (World.cell?_of_block (hx.block 2 (by omega))).trans (h.2 r i hr hi)⟩
end Go.Proofs.YtaoaebdjinlcnaaDoor
