/-
  What the laws on turned bytes walk with: an argument's parts read, what is turned twice, in parts, alike.
-/
import Derived.Test.YtaoaebdjinlcnaaDoorCHl
set_option linter.unusedVariables false
set_option linter.unusedSimpArgs false
set_option maxRecDepth 100000
namespace Go.Proofs.YtaoaebdjinlcnaaDoor.Ci
open Go.RowKit
theorem ldm {ty : TypeId} {n : Nat} (T : ArrT ty n) {ops : Array Oper} {rest : List Oper} {o : Oper} {a : Act} {w : World} {Q : Exit → Act → World → Prop} {x : Operand} {g f : Nat} {l : List Nat}
    (hgd : o.guard = none) (ho : o.op = .load ty x) (hx : a.eval x = .pointer (some ⟨g, f, none⟩)) (hr : w.rangeAt g f (vl l)) (hl : l.length = n)
    (h : wpList Tryd.prog ops Q rest (a.put o.dst (.agg (vs .u8 l))) w) : wpList Tryd.prog ops Q (o :: rest) a w := by
  obtain ⟨e, hu⟩ := T.und
  exact wpList_load_mid hgd ty x ho g f hx (vl l) _ hr hu rfl (by rw [T.siz, vl_length, hl]) h
/-- the same behind a test -/
theorem ldg {ty : TypeId} {n : Nat} (T : ArrT ty n) {ops : Array Oper} {rest : List Oper} {o : Oper} {a : Act} {w : World} {Q : Exit → Act → World → Prop} {x : Operand} {g f : Nat} {l : List Nat}
    (hgd : Region.wanted o (yielded ops a.tmps) = true) (ho : o.op = .load ty x) (hx : a.eval x = .pointer (some ⟨g, f, none⟩)) (hr : w.rangeAt g f (vl l)) (hl : l.length = n)
    (h : wpList Tryd.prog ops Q rest (a.put o.dst (.agg (vs .u8 l))) w) : wpList Tryd.prog ops Q (o :: rest) a w := by
  obtain ⟨e, hu⟩ := T.und
  show (if Region.wanted o (yielded ops a.tmps) then o.wp Tryd.prog a w (wpList Tryd.prog ops Q rest) Q ∨ (o.asks Tryd.prog a w ∧ LetsOut Q) else wpList Tryd.prog ops Q rest (a.put o.dst undef) w)
  rw [if_pos hgd]
  exact .inl (wp_load_mid ty x ho g f hx (vl l) _ hr hu rfl (by rw [T.siz, vl_length, hl]) h)
theorem held3 {W w w' : World} {b1 o1 b2 o2 : Nat} {c1 c2 : List Value} {p : Addr} {v : Value} (h : w.rangeAt b1 o1 c1 ∧ w.rangeAt b2 o2 c2 ∧ w.cell? p = some v ∧ Below W.heap.size W w) (hx : Below w.heap.size w w') :
    w'.rangeAt b1 o1 c1 ∧ w'.rangeAt b2 o2 c2 ∧ w'.cell? p = some v ∧ Below W.heap.size W w' :=
  ⟨rangeAt_below h.1 hx, rangeAt_below h.2.1 hx, (hx.cell (World.block_lt_of_cell? _ _ h.2.2.1)).trans h.2.2.1, h.2.2.2.trans (hx.mono h.2.2.2.size)⟩
theorem xor_xor (a b : Nat) : (a ^^^ b) ^^^ b = a := by rw [Nat.xor_assoc, Nat.xor_self, Nat.xor_zero]
/-- bytes that are turned twice are as they were -/
theorem xs_xs (K N : List Nat) (n : Nat) {D : List Nat} : xs K N n (xs K N n D) = D := by
  apply List.ext_getElem
  · rw [xs_length, xs_length]
  · intro i h1 h2
    rw [← Ch.nth_lt h1, ← Ch.nth_lt h2, xs_nth _ _ _ _ (by rw [xs_length]; exact h2)]
    unfold xb
    rw [xs_nth _ _ _ _ h2]
    exact xor_xor _ _
theorem twice (K N : List Nat) (n : Nat) (s : ByteArray) : bs (xs K N n (tn (bs (xs K N n (tn s))))) = s := by
  rw [tn_bs (xs_by K N n (tn_by s)), xs_xs, bs_tn]
theorem xs_size (K N : List Nat) (n : Nat) (s : ByteArray) : (bs (xs K N n (tn s))).size = s.size := by rw [bs_size, xs_length, tn_length]
end Go.Proofs.YtaoaebdjinlcnaaDoor.Ci
