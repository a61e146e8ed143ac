/-
  Blocks that are one instruction; a region that draws, walked by hand; four writes in any order.
-/
import Derived.Test.YtmafeekhbcpomaaDoorAl
import Derived.Test.YtmafeekhbcpomaaDoorCp
import Derived.Laws.Tables
import Derived.Deep.RegionHeld
import Derived.Deep.RegionHeld3
import Derived.OrdersHeld
namespace Go.Proofs.YtmafeekhbcpomaaDoor
open Go.RowKit
set_option linter.unusedVariables false
set_option linter.unusedSimpArgs false
/-- block g is just this instruction -/
def Own (w : World) (g : Nat) (x : Is.Ins) : Prop := w.heap[g]? = some (.cells (ic x) 23 (0, 0))
theorem Own.lt {w : World} {g : Nat} {x : Is.Ins} (h : Own w g x) : g < w.heap.size := lt_of_block h
theorem Own.at_ {w : World} {g : Nat} {x : Is.Ins} (h : Own w g x) : At w g x := by
  unfold Own at h
  constructor <;> simp [World.cell?, h, ic]
theorem Own.new (w : World) (x : Is.Ins) : Own (w.alloc (.cells (ic x) 23)) w.heap.size x := by
  unfold Own
  show (w.heap.push _)[w.heap.size]? = _
  simp
theorem Own.alloc {w : World} {g : Nat} {x : Is.Ins} (h : Own w g x) (o : Obj) : Own (w.alloc o) g x := (Below.heap_alloc w o g h.lt).trans h
theorem Own.below {w w' : World} {g : Nat} {x : Is.Ins} (h : Own w g x) (hb : Below w.heap.size w w') : Own w' g x := (hb.block g h.lt).trans h
theorem Own.drew {w : World} {g : Nat} {x : Is.Ins} (h : Own w g x) : Own w.drew g x := h
theorem Own.row {w : World} {g : Nat} {x : Is.Ins} (h : Own w g x) (y : Is.Ins) : Own (w.setRow g (ic y)) g y := by
  unfold Own at h ⊢
  simp [World.setRow, Array.getElem?_modify, h]
theorem heap_setRow (w : World) (g : Nat) (c : Array Value) (k : Nat) (h : k ≠ g) : (w.setRow g c).heap[k]? = w.heap[k]? := by
  simp [World.setRow, Array.getElem?_modify, Ne.symm h]
theorem Own.rowOther {w : World} {g : Nat} {x : Is.Ins} (h : Own w g x) (p : Nat) (c : Array Value) (hp : g ≠ p) : Own (w.setRow p c) g x := (heap_setRow _ _ _ _ hp).trans h
theorem below_row {B : Nat} {a w : World} (h : Below B a w) {g : Nat} (hg : B ≤ g) (c : Array Value) : Below B a (w.setRow g c) :=
  h.trans ⟨rfl, rfl, rfl, by simp [World.setRow], fun k hk => heap_setRow _ _ _ _ (by omega)⟩
theorem Own.other {w : World} {g : Nat} {x : Is.Ins} (h : Own w g x) (p : Addr) (u : Value) (hp : g ≠ p.block) : Own (w.setCell p u) g x := (Below.heap_setCell _ _ _ _ hp).trans h
theorem Own.setA {w : World} {g : Nat} {x : Is.Ins} (h : Own w g x) (a : Nat) : Own (w.setCell ⟨g, 1, none⟩ (.int .u8 (a : Int))) g { x with a := a } := by
  unfold Own at h ⊢
  simp [World.setCell, Array.getElem?_modify, h, ic]
theorem Own.setB {w : World} {g : Nat} {x : Is.Ins} (h : Own w g x) (a : Nat) : Own (w.setCell ⟨g, 2, none⟩ (.int .u8 (a : Int))) g { x with b := a } := by
  unfold Own at h ⊢
  simp [World.setCell, Array.getElem?_modify, h, ic]
theorem Own.setC {w : World} {g : Nat} {x : Is.Ins} (h : Own w g x) (a : Nat) : Own (w.setCell ⟨g, 3, none⟩ (.int .u8 (a : Int))) g { x with c := a } := by
  unfold Own at h ⊢
  simp [World.setCell, Array.getElem?_modify, h, ic]
theorem Own.setI {w : World} {g : Nat} {x : Is.Ins} (h : Own w g x) (n : Int) : Own (w.setCell ⟨g, 4, none⟩ (.int .i32 n)) g { x with imm := n } := by
  unfold Own at h ⊢
  simp [World.setCell, Array.getElem?_modify, h, ic]
theorem ic_one (x : Is.Ins) : (ic x).all (·.oneCell') = true := by simp [ic, Value.oneCell']
theorem ic_siz (x : Is.Ins) : (ic x).size = 5 := rfl
section
variable {P : Program} {l : List Oper} {Q : Exit → Act → World → Prop} {md : Region.Mode} {S : World → Prop}
theorem tkH {i : Nat} {oi : Oper} {v : Value} {fuel : Nat} {listed : Array Bool} {a : Act} {w : World} (hi : l[i]? = some oi)
    (hs : Region.noSelect l.toArray = true) (hf : Region.free md l.toArray listed i = true) (hr : (Region.ready md l.toArray listed).contains i = true)
    (hQ : ∀ c a w, Q (.panic c) (a.put oi.dst v) w → Q (.panic c) a w) (hS : S w) (hy : YieldsIf P l.toArray S oi v a)
    (h : wpAnyH P md l.toArray Q S fuel (listed.setIfInBounds i true) (a.put oi.dst v) w) : wpAnyH P md l.toArray Q S (fuel + 1) listed a w :=
  wpAnyH_take (by rw [List.getElem?_toArray]; exact hi) hs hf hr hQ hy hS h
/-- what an operation's own law must show -/
def Goes (P : Program) (l : List Oper) (Q : Exit → Act → World → Prop) (md : Region.Mode) (S : World → Prop) (fuel : Nat) (listed : Array Bool) (a : Act) (w : World) (i : Nat) (oi : Oper) : Prop :=
  ∀ K : Act → World → Prop, Shut (∀ a w, S w → (S w → wpAnyH P md l.toArray Q S fuel (listed.setIfInBounds i true) a w) → K a w) → Oper.wp P oi a w K Q
theorem efs {rs : List Nat} {fuel : Nat} {listed : Array Bool} {a : Act} {w : World} (hr : Region.ready md l.toArray listed = rs) (hne : rs ≠ [])
    (hg : ∀ i ∈ rs, ∃ o, l[i]? = some o ∧ Region.wanted o (yielded l.toArray a.tmps) = true ∧ Goes P l Q md S fuel listed a w i o) : wpAnyH P md l.toArray Q S (fuel + 1) listed a w := by
  refine wpAnyH_ready hr (by simpa using hne) ?_
  clear hr hne
  induction rs with
  | nil => exact AllReadyH.nil
  | cons i rs ih =>
    obtain ⟨o, h1, h2, h3⟩ := hg i (by simp)
    exact AllReadyH.cons (by rw [List.getElem?_toArray]; exact h1) (fun K hK => by rw [if_pos h2]; exact h3 K hK) (ih fun q hq => hg q (by simp [hq]))
end
theorem Own.frozen {w : World} {g : Nat} {x : Is.Ins} (h : Own w g x) (i : Nat) : w.frozen? ⟨g, i, none⟩ = false := by
  unfold Own at h; simp [World.frozen?, h]
theorem ldI {ops : Array Oper} {rest : List Oper} {o : Oper} {a : Act} {w : World} {Q : Exit → Act → World → Prop} {p : Operand} {g : Nat} {x : Is.Ins} (hgd : o.guard = none) (ho : o.op = .load 23 p) (hp : a.eval p = .pointer (some ⟨g, 0, none⟩)) (h : Own w g x)
    (k : wpList Tryd.prog ops Q rest (a.put o.dst (.agg (ic x))) w) : wpList Tryd.prog ops Q (o :: rest) a w := wpList_plain hgd fun K hK => by
  obtain ⟨c0, c1, c2, c3, c4⟩ := h.at_
  have e : (execOp a.eval o).run Tryd.prog w = .ok (.value (.agg (ic x))) w := by
    unfold execOp
    simp only [ho, hp]
    go_simp
    rfl
  unfold Oper.wp
  rw [e]
  exact hK _ _ k
theorem yldI {S : World → Prop} {ops : Array Oper} {o : Oper} {a : Act} {p : Operand} {g : Nat} {x : Is.Ins} (hw : Region.wanted o (yielded ops a.tmps) = true) (ho : o.op = .load 23 p) (hp : a.eval p = .pointer (some ⟨g, 0, none⟩)) (hS : ∀ w, S w → At w g x) :
    YieldsIf Tryd.prog ops S o (.agg (ic x)) a := by
  refine .inl ⟨hw, fun w h => ?_⟩
  obtain ⟨c0, c1, c2, c3, c4⟩ := hS w h
  unfold execOp
  simp only [ho, hp]
  go_simp
  rfl
end Go.Proofs.YtmafeekhbcpomaaDoor
