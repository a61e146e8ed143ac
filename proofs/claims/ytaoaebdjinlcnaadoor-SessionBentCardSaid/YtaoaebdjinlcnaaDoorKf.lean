/-
  What is held while a law's own region is walked: the key's block and the slices of one or more texts.
-/
import Derived.Test.YtaoaebdjinlcnaaDoorEq
set_option linter.unusedVariables false
set_option linter.unusedSimpArgs false
set_option maxRecDepth 100000
namespace Go.Proofs.YtaoaebdjinlcnaaDoor
open Go.RowKit
/-- the key lies in the call's first block -/
structure Kf (w wr : World) (K : List Nat) : Prop where
  k : Own wr w.heap.size 24 (vs .u8 K)
  b : Below w.heap.size w wr
theorem Kf.below {w wr w1 : World} {K : List Nat} (o : Kf w wr K) (hx : Below wr.heap.size wr w1) : Kf w w1 K := ⟨Below.own hx o.k o.k.lt, o.b.trans (hx.mono o.b.size)⟩
theorem Kf.drew {w wr : World} {K : List Nat} (o : Kf w wr K) : Kf w wr.drew K := ⟨o.k, o.b.drew⟩
/-- texts as parts in a block of their own -/
structure Pt (wr : World) (g : Nat) (xs : List ByteArray) : Prop where
  lt : g < wr.heap.size
  c : ∀ (j : Nat) x, xs[j]? = some x → wr.cell? ⟨g, j, none⟩ = some (.string x)
theorem Pt.below {wr w1 : World} {g : Nat} {xs : List ByteArray} (p : Pt wr g xs) (hx : Below wr.heap.size wr w1) : Pt w1 g xs :=
  ⟨Nat.lt_of_lt_of_le p.lt hx.size, fun j x h => (hx.cell p.lt).trans (p.c j x h)⟩
theorem Pt.pts {wr : World} {g : Nat} {xs : List ByteArray} (p : Pt wr g xs) : Pts wr (some ⟨g, 0, none⟩) xs := .inr ⟨g, 0, rfl, p.lt, fun j x h => by rw [Nat.zero_add]; exact p.c j x h⟩
theorem Pt.new (wr : World) (xs : List ByteArray) : Pt (wr.alloc (Obj.cells (xs.map Value.string).toArray 9)) wr.heap.size xs :=
  ⟨(Own.new wr 9 _).lt, fun j x h => by
    rw [(Own.new wr 9 (xs.map Value.string).toArray).cellv]
    simp [h]⟩
theorem Pt.new1 (wr : World) (a : ByteArray) : Pt (wr.alloc (Obj.cells #[.string a] 9)) wr.heap.size [a] := Pt.new wr [a]
theorem Pt.new2 (wr : World) (a b : ByteArray) : Pt (wr.alloc (Obj.cells #[.string a, .string b] 9)) wr.heap.size [a, b] := Pt.new wr [a, b]
theorem Pt.new3 (wr : World) (a b c : ByteArray) : Pt (wr.alloc (Obj.cells #[.string a, .string b, .string c] 9)) wr.heap.size [a, b, c] := Pt.new wr [a, b, c]
theorem exec_same (L : List Nat) (hl : L.length = 32) (w : World) (ρ : Operand → Value) (x y : Operand) (hx : ρ x = .agg (vs .u8 L)) (hy : ρ y = .agg (vs .u8 L)) (o : Oper) (ho : o.op = .binOp .eql 64 x y 64) : (execOp ρ o).run Tryd.prog w = .ok (.value (.bool true)) w := by
  have := exec_eq L L hl hl w ρ x y hx hy o ho
  simpa using this
theorem grow (wr : World) (o : Obj) : Below wr.heap.size wr (wr.alloc o) := (Below.refl _ _).alloc (Nat.le_refl _) _
theorem cat_two (a b : ByteArray) : cat [a, b] = tn a ++ tn b := by simp [cat]
theorem cat_three (a b c : ByteArray) : cat [a, b, c] = tn a ++ (tn b ++ tn c) := by simp [cat]
theorem tn_empty : tn ⟨#[]⟩ = [] := rfl
theorem tn_cut (s : ByteArray) (n : Nat) (h : n ≤ s.size) : tn (s.extract 0 n) ++ tn (s.extract n s.size) = tn s := by
  rw [tn_extract, tn_extract, List.drop_zero, List.take_of_length_le (i := s.size) (by rw [tn_length]; omega), List.take_append_drop]
theorem keyed_pt {w wr : World} {K : List Nat} {g c : Nat} {xs : List ByteArray} (hK : Bl.By K) (lK : K.length = 32) (hT : Tab w) (o : Kf w wr K) (p : Pt wr g xs) (hl : xs.length = c) (hN : c ≤ 1000) (hs : (cat xs).length ≤ 1000000) :
    Calls Tryd.prog 59 #[.agg (vs .u8 K), .slice (some ⟨g, 0, none⟩) c c] wr fun e w' => e = .returned (.agg (vs .u8 (Bl.keyed K (cat xs)))) ∧ Below wr.heap.size wr w' := by
  subst hl
  exact keyed_any K _ xs _ wr hK lK (hT.below o.b) p.pts (by omega) (Nat.le_refl _) (by omega)
theorem rkeyed_pt {wr : World} {K : List Nat} {g c : Nat} {xs : List ByteArray} (hK : Bl.By K) (lK : K.length = 32) (p : Pt wr g xs) (hl : xs.length = c) (hN : c ≤ 1000) (hs : (cat xs).length ≤ 1000000) :
    Calls Tryd.prog 44 #[.agg (vs .u8 K), .slice (some ⟨g, 0, none⟩) c c] wr fun e w' => e = .returned (.agg (vs .u8 (Bl.keyed K (cat xs)))) ∧ Below wr.heap.size wr w' := by
  subst hl
  exact rkeyed_any K _ xs _ wr hK lK p.pts (by omega) (Nat.le_refl _) (by omega)
end Go.Proofs.YtaoaebdjinlcnaaDoor
