/-
  Bytes as cells: those of a block, of an array, of a struct of bytes; read, laid, held against each other.
-/
import Derived.Test.YtgfnpemonpebpaaProg
import Derived.Test.YtgfnpemonpebpaaFx
import Derived.Deep.MidRow
import Derived.Deep.WholeRow
import Derived.Laws.Rows
import Derived.Laws.Tables
import Derived.DeepKeys
namespace Go.Proofs.Ytgfnpemonpebpaa
open Go.RowKit
set_option linter.unusedVariables false
set_option linter.unusedSimpArgs false
def vl (l : List Nat) : List Value := l.map fun (n : Nat) => Value.int .u8 (n : Int)
def vs (l : List Nat) : Array Value := (vl l).toArray
theorem vl_length (l : List Nat) : (vl l).length = l.length := by simp [vl]
theorem vs_size (l : List Nat) : (vs l).size = l.length := by simp [vs, vl]
theorem vl_append (a b : List Nat) : vl (a ++ b) = vl a ++ vl b := by simp [vl]
theorem vl_get {l : List Nat} {i : Nat} (h : i < l.length) : (vl l)[i]? = some (.int .u8 (Gf.nth l i : Nat)) := by
  rw [Gf.nth_eq]; simp [vl, h]
theorem vs_get {l : List Nat} {i : Nat} (h : i < l.length) : (vs l)[i]? = some (.int .u8 (Gf.nth l i : Nat)) := by
  unfold vs; rw [List.getElem?_toArray]; exact vl_get h
theorem vs_set (l : List Nat) (i x : Nat) : (vs l).setIfInBounds i (.int .u8 (x : Int)) = vs (l.set i x) := by
  simp [vs, vl, List.map_set]
theorem vs_one (l : List Nat) : (vs l).all (·.oneCell') = true := by
  unfold vs vl
  simp [Value.oneCell']
theorem vl_one (l : List Nat) : ∀ v ∈ vl l, v.oneCell' = true := by
  intro v hv
  obtain ⟨n, _, rfl⟩ := List.mem_map.1 hv
  rfl
/-- these bytes lie at a place of a block -/
def Rg (w : World) (b o : Nat) (l : List Nat) : Prop := w.rangeAt b o (vl l)
theorem Rg.cell {w : World} {b o : Nat} {l : List Nat} (h : Rg w b o l) {i : Nat} (hi : i < l.length) : w.cell? ⟨b, o + i, none⟩ = some (.int .u8 (Gf.nth l i : Nat)) := h i _ (vl_get hi)
theorem Rg.below {w w' : World} {b o : Nat} {l : List Nat} (h : Rg w b o l) (hx : Below w.heap.size w w') : Rg w' b o l := fun j v hj => by
  have := h j v hj
  exact (hx.cell (World.block_lt_of_cell? _ _ this)).trans this
theorem Rg.dr {w w' : World} {b o : Nat} {l : List Nat} (h : Rg w b o l) (hx : Dr w w') : Rg w' b o l := h.below hx.below
theorem Rg.drew {w : World} {b o : Nat} {l : List Nat} (h : Rg w b o l) : Rg w.drew b o l := h
theorem Rg.alloc {w : World} {b o : Nat} {l : List Nat} (h : Rg w b o l) (ob : Obj) : Rg (w.alloc ob) b o l := World.rangeAt_alloc h ob
theorem Rg.left {w : World} {b o : Nat} {l m : List Nat} (h : Rg w b o (l ++ m)) : Rg w b o l := fun j v hj => by
  have hlt : j < (vl l).length := (List.getElem?_eq_some_iff.1 hj).1
  exact h j v (by rw [vl_append, List.getElem?_append_left hlt]; exact hj)
theorem Rg.right {w : World} {b o : Nat} {l m : List Nat} (h : Rg w b o (l ++ m)) : Rg w b (o + l.length) m := fun j v hj => by
  have e := h (l.length + j) v (by rw [vl_append, List.getElem?_append_right (by rw [vl_length]; omega), vl_length, Nat.add_sub_cancel_left]; exact hj)
  rw [← Nat.add_assoc] at e
  exact e
theorem Rg.bs {w : World} {b o : Nat} {l : List Nat} (h : Rg w b o l) (hb : Gf.Bytes l) : Bs w (some ⟨b, o, none⟩) l.length l := ⟨rfl, hb, fun _ => ⟨b, o, rfl, fun i hi => h.cell hi⟩⟩
theorem Own.rg {w : World} {g : Nat} {t : TypeId} {l : List Nat} (h : Own w g t (vs l)) : Rg w g 0 l := fun j v hj => by
  rw [Nat.zero_add, h.cell]
  unfold vs
  rw [List.getElem?_toArray]
  exact hj
theorem Own.cellb {w : World} {g : Nat} {t : TypeId} {l : List Nat} (h : Own w g t (vs l)) {i : Nat} (hi : i < l.length) : w.cell? ⟨g, i, none⟩ = some (.int .u8 (Gf.nth l i : Nat)) := by
  rw [h.cell, vs_get hi]
theorem Own.setb {w : World} {g : Nat} {t : TypeId} {l : List Nat} (h : Own w g t (vs l)) (i x : Nat) : Own (w.setCell ⟨g, i, none⟩ (.int .u8 (x : Int))) g t (vs (l.set i x)) := by
  rw [← vs_set]; exact h.set i _
theorem Own.kept {w w' : World} {g : Nat} {t : TypeId} {cs : Array Value} (h : Own w g t cs) (hb : w'.heap[g]? = w.heap[g]?) : Own w' g t cs := hb.trans h
theorem Own.below {w w' : World} {g : Nat} {t : TypeId} {cs : Array Value} (h : Own w g t cs) (hb : Below w.heap.size w w') : Own w' g t cs := h.kept (hb.block g h.lt)
theorem Own.belowB {w w' : World} {g B : Nat} {t : TypeId} {cs : Array Value} (h : Own w g t cs) (hb : Below B w w') (hg : g < B) : Own w' g t cs := h.kept (hb.block g hg)
theorem Own.dr {w w' : World} {g : Nat} {t : TypeId} {cs : Array Value} (h : Own w g t cs) (hd : Dr w w') : Own w' g t cs := h.below hd.below
theorem Own.drew {w : World} {g : Nat} {t : TypeId} {cs : Array Value} (h : Own w g t cs) : Own w.drew g t cs := h
theorem Own.other {w : World} {g : Nat} {t : TypeId} {cs : Array Value} (h : Own w g t cs) (p : Addr) (u : Value) (hp : g ≠ p.block) : Own (w.setCell p u) g t cs := h.kept (Below.heap_setCell _ _ _ _ hp)
theorem Own.new' (w : World) (t : TypeId) (cs : Array Value) {g : Nat} (h : g = w.heap.size) : Own (w.alloc (.cells cs t)) g t cs := by subst h; exact Own.new _ _ _
theorem Own.row {w : World} {g : Nat} {t : TypeId} {cs : Array Value} (h : Own w g t cs) (c : Array Value) : Own (w.setRow g c) g t c := by
  unfold Own at h ⊢
  simp [World.setRow, Array.getElem?_modify, h]
theorem heap_setRow (w : World) (g : Nat) (c : Array Value) (k : Nat) (h : k ≠ g) : (w.setRow g c).heap[k]? = w.heap[k]? := by
  simp only [World.setRow, Array.getElem?_modify]
  rw [if_neg (by omega)]
theorem Own.rowOther {w : World} {g : Nat} {t : TypeId} {cs : Array Value} (h : Own w g t cs) (p : Nat) (c : Array Value) (hp : g ≠ p) : Own (w.setRow p c) g t cs := h.kept (heap_setRow _ _ _ _ hp)
theorem below_row {B : Nat} {a w : World} (h : Below B a w) {g : Nat} (hg : B ≤ g) (c : Array Value) : Below B a (w.setRow g c) :=
  h.trans ⟨rfl, rfl, rfl, by simp [World.setRow], fun k hk => heap_setRow _ _ _ _ (by omega)⟩
theorem size_row (w : World) (g : Nat) (c : Array Value) : (w.setRow g c).heap.size = w.heap.size := by simp [World.setRow]
/-- bytes laid over others -/
def spl (L : List Nat) (o : Nat) (S : List Nat) : List Nat := L.take o ++ S ++ L.drop (o + S.length)
theorem spl_cons (L : List Nat) (o x : Nat) (S : List Nat) (h : o < L.length) : spl (L.set o x) (o + 1) S = spl L o (x :: S) := by
  unfold spl
  have e1 : (L.set o x).take (o + 1) = L.take o ++ [x] := by
    rw [List.set_eq_take_append_cons_drop, if_pos h, List.take_append, List.take_of_length_le (by simp; omega)]
    have e : (List.take o L).length = o := by simp; omega
    rw [e, show o + 1 - o = 1 from by omega]; rfl
  have e2 : (L.set o x).drop (o + 1 + S.length) = L.drop (o + 1 + S.length) := by
    rw [List.drop_set_of_lt (by omega)]
  rw [e1, e2, List.length_cons]
  simp [Nat.add_comm, Nat.add_left_comm]
theorem setCells_own {t : TypeId} {g : Nat} : ∀ (S L : List Nat) (o : Nat) (w : World), Own w g t (vs L) → o + S.length ≤ L.length → Own (w.setCells g o (vl S)) g t (vs (spl L o S))
  | [], L, o, w, h, _ => by
    rw [show vl [] = [] from rfl, show spl L o [] = L from by simp [spl]]
    exact h
  | x :: S, L, o, w, h, hl => by
    rw [List.length_cons] at hl
    rw [show vl (x :: S) = .int .u8 (x : Int) :: vl S from rfl]
    show Own ((w.setCell ⟨g, o, none⟩ (.int .u8 (x : Int))).setCells g (o + 1) (vl S)) g t _
    rw [← spl_cons L o x S (by omega)]
    exact setCells_own S (L.set o x) (o + 1) _ (h.setb o x) (by rw [List.length_set]; omega)
theorem heap_setCells (g : Nat) : ∀ (vs : List Value) (o : Nat) (w : World) (k : Nat), k ≠ g → (w.setCells g o vs).heap[k]? = w.heap[k]?
  | [], _, _, _, _ => rfl
  | v :: r, o, w, k, h => (heap_setCells g r (o + 1) _ k h).trans (Below.heap_setCell _ _ _ _ h)
theorem below_cells {g B : Nat} {a : World} (hg : B ≤ g) : ∀ (vs : List Value) (o : Nat) (w : World), Below B a w → Below B a (w.setCells g o vs)
  | [], _, _, h => h
  | v :: r, o, w, h => below_cells hg r (o + 1) _ (h.setCell hg v)
theorem Own.cellsOther {w : World} {g p : Nat} {t : TypeId} {cs : Array Value} (h : Own w g t cs) (o : Nat) (vs : List Value) (hp : g ≠ p) : Own (w.setCells p o vs) g t cs := h.kept (heap_setCells p vs o w g hp)
theorem Own.there {w : World} {g : Nat} {t : TypeId} {l : List Nat} (h : Own w g t (vs l)) {o n : Nat} (hn : o + n ≤ l.length) : w.there g o n := fun j hj => by
  rw [h.cellb (i := o + j) (by omega), h.frozen]
  exact ⟨rfl, rfl⟩
/-- a type of so many cells, read and laid as one value -/
structure AggT (ty : TypeId) (n : Nat) : Prop where
  und : ∃ d : TypeDesc, Try.prog.underlying ty = some d ∧ d.isRow = true ∧ (match d with | .struct _ | .array _ _ => true | _ => false) = true
  siz : (Try.prog.info? ty).map (·.size) = some n
theorem ld {ty : TypeId} {n : Nat} (T : AggT ty n) {ops : Array Oper} {rest : List Oper} {o : Oper} {a : Act} {w : World} {Q : Exit → Act → World → Prop} {x : Operand} {b f : Nat} {l : List Nat}
    (hgd : o.guard = none) (ho : o.op = .load ty x) (hx : a.eval x = .pointer (some ⟨b, f, none⟩)) (hg : Rg w b f l) (hl : l.length = n)
    (h : wpList Try.prog ops Q rest (a.put o.dst (.agg (vs l))) w) : wpList Try.prog ops Q (o :: rest) a w := by
  obtain ⟨d, hu, hr, _⟩ := T.und
  exact wpList_load_mid hgd ty x ho b f hx (vl l) d hg hu hr (by rw [T.siz, vl_length, hl]) h
theorem sto {ty : TypeId} {n : Nat} (T : AggT ty n) {ops : Array Oper} {rest : List Oper} {o : Oper} {a : Act} {w : World} {Q : Exit → Act → World → Prop} {x y : Operand} {g : Nat} {t : TypeId} {l l' : List Nat}
    (hgd : o.guard = none) (ho : o.op = .store ty x y) (hx : a.eval x = .pointer (some ⟨g, 0, none⟩)) (hy : a.eval y = .agg (vs l)) (hg : Own w g t (vs l')) (hl' : l'.length = n) (hl : l.length = n)
    (h : wpList Try.prog ops Q rest (a.put o.dst undef) (w.setRow g (vs l))) : wpList Try.prog ops Q (o :: rest) a w :=
  wpList_store_row hgd ty x y ho g (vs l) hx hy t (vs l') hg (by rw [T.siz, vs_size, hl]) (by rw [vs_size, vs_size, hl, hl']) (vs_one l) h
theorem sto_new {ty : TypeId} {n : Nat} (T : AggT ty n) {ops : Array Oper} {rest : List Oper} {o : Oper} {a : Act} {w : World} {c : Array Value} {t : TypeId} {Q : Exit → Act → World → Prop} {x y : Operand} {l : List Nat} {g : Nat}
    (hgd : o.guard = none) (ho : o.op = .store ty x y) (hx : a.eval x = .pointer (some ⟨g, 0, none⟩)) (hg : g = w.heap.size) (hy : a.eval y = .agg (vs l)) (hc : c.size = n) (hl : l.length = n)
    (h : wpList Try.prog ops Q rest (a.put o.dst undef) (w.alloc (.cells (vs l) t))) : wpList Try.prog ops Q (o :: rest) a (w.alloc (.cells c t)) := by
  subst hg
  exact wpList_store_row hgd ty x y ho w.heap.size (vs l) hx hy t c (Own.new w t c) (by rw [T.siz, vs_size, hl]) (by rw [vs_size, hc, hl]) (vs_one l) (by rw [World.setRow_alloc_new]; exact h)
theorem sto_mid {ty : TypeId} {n : Nat} (T : AggT ty n) {ops : Array Oper} {rest : List Oper} {o : Oper} {a : Act} {w : World} {Q : Exit → Act → World → Prop} {x y : Operand} {g f : Nat} {t : TypeId} {l L : List Nat}
    (hgd : o.guard = none) (ho : o.op = .store ty x y) (hx : a.eval x = .pointer (some ⟨g, f, none⟩)) (hy : a.eval y = .agg (vs l)) (hg : Own w g t (vs L)) (hf : f + n ≤ L.length) (hl : l.length = n)
    (h : wpList Try.prog ops Q rest (a.put o.dst undef) (w.setCells g f (vl l))) : wpList Try.prog ops Q (o :: rest) a w :=
  wpList_store_mid hgd ty x y ho g f (vs l) hx hy (by rw [vs_size, hl]; exact hg.there hf) (by rw [T.siz, vs_size, hl]) (vs_one l) (by unfold vs; exact h)
theorem res_agg {ty : TypeId} {n : Nat} (T : AggT ty n) {fn : Func} {p : Tmp} {R : Ending → World → Prop} {a : Act} {w : World} {g : Nat} {t : TypeId} {l : List Nat}
    (hr : fn.results = #[.cell p ty]) (hp : a.tmps.getD p undef = .pointer (some ⟨g, 0, none⟩)) (hg : Own w g t (vs l)) (hl : l.length = n) (hd : a.defers = [])
    (hR : R (.returned (.agg (vs l))) w) : bodyPost Try.prog fn R .ret a w := by
  obtain ⟨d, hu, _, hr'⟩ := T.und
  exact bodyPost_ret (results_cell_row hr a.tmps w g t (vs l) (0, 0) d hp hg hu (by cases d <;> first | rfl | (simp at hr')) (by rw [T.siz, vs_size, hl])) hd hR
/-! ### held against each other -/
def lits (l : List Nat) : List Lit := l.map fun (n : Nat) => Lit.int .u8 (n : Int)
theorem lits_inj {a b : List Nat} (h : lits a = lits b) : a = b := by
  unfold lits at h
  exact (List.map_inj_right (fun x y e => by injection e with _ e; omega)).1 h
/-- a type whose cells are bytes alone -/
def ByT (d : Nat) (t : TypeId) (c : Nat) : Prop := Try.prog.cellsOf t = c ∧ ∀ l : List Nat, l.length = c → Gf.Bytes l → Try.prog.keyLits d t (vl l) = some (lits l)
theorem byT_u8 {t : TypeId} (hu : Try.prog.underlying t = some (.int .u8)) (hc : Try.prog.cellsOf t = 1) (d : Nat) : ByT (d + 1) t 1 := by
  refine ⟨hc, fun l hl hb => ?_⟩
  match l, hl with
  | [x], _ =>
    have hx : x < 256 := hb x (by simp)
    simp [vl, lits, Program.keyLits, hu, Lit.wf, IntKind.min, IntKind.max, IntKind.signed, IntKind.bits]
    omega
theorem vl_drop_take (l : List Nat) (i n : Nat) : ((vl l).drop i).take n = vl ((l.drop i).take n) := by simp [vl, List.map_drop, List.map_take]
theorem bytes_drop_take {l : List Nat} (h : Gf.Bytes l) (i n : Nat) : Gf.Bytes ((l.drop i).take n) := fun x hx => h x (List.mem_of_mem_drop (List.mem_of_mem_take hx))
theorem mapM_chunks {d : Nat} {e : TypeId} {c : Nat} (E : ByT d e c) : ∀ (n k : Nat) (l : List Nat), l.length = (k + n) * c → Gf.Bytes l →
    ((List.range' k n).mapM fun i => Try.prog.keyLits d e (((vl l).drop (i * c)).take c)).map List.flatten = some (lits (l.drop (k * c)))
  | 0, k, l, hl, _ => by
    rw [Nat.add_zero] at hl
    rw [List.drop_of_length_le (by omega)]
    rfl
  | n + 1, k, l, hl, hb => by
    have ih := mapM_chunks E n (k + 1) l (by rw [hl]; congr 1; omega) hb
    have e1 : (k + (n + 1)) * c = k * c + c + n * c := by rw [Nat.add_mul, Nat.add_mul]; omega
    have h1 := E.2 ((l.drop (k * c)).take c) (by rw [List.length_take, List.length_drop]; omega) (bytes_drop_take hb _ _)
    rw [List.range'_succ, List.mapM_cons, vl_drop_take, h1]
    cases hm : (List.range' (k + 1) n).mapM fun i => Try.prog.keyLits d e (((vl l).drop (i * c)).take c) with
    | none => rw [hm] at ih; simp at ih
    | some ys =>
      rw [hm] at ih
      simp only [Option.map_some, Option.some.injEq] at ih
      simp only [Option.bind_eq_bind, Option.bind_some, Option.pure_def, Option.map_some, List.flatten_cons, ih, Option.some.injEq]
      unfold lits
      rw [← List.map_append]
      congr 1
      rw [show (k + 1) * c = k * c + c from by rw [Nat.add_mul]; omega, ← List.drop_drop, List.take_append_drop]
theorem byT_array {d : Nat} {t e : TypeId} {n c m : Nat} (hu : Try.prog.underlying t = some (.array n e)) (hm : Try.prog.cellsOf t = m) (hc : m = n * c) (E : ByT d e c) : ByT (d + 1) t m := by
  refine ⟨hm, fun l hl hb => ?_⟩
  have h := mapM_chunks E n 0 l (by rw [Nat.zero_add, hl, hc]) hb
  rw [Nat.zero_mul, List.drop_zero] at h
  rw [Program.keyLits.eq_def]
  simp only [hu, E.1, hm, vl_length, hl, if_true]
  rw [List.range_eq_range']
  exact h
end Go.Proofs.Ytgfnpemonpebpaa
