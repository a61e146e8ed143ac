/-
  Words that a call appends to a row of its own.
-/
import Derived.Test.YtkbelpkmlmfedaaEn
import Derived.Deep.AppendLies
import Derived.Deep.RegionLaw
namespace Go.Proofs.Ytkbelpkmlmfedaa
set_option linter.unusedVariables false
set_option maxRecDepth 100000
set_option linter.unusedSimpArgs false
open Go.RowKit
namespace Xe
open _root_.Go.Proofs.Ytkbelpkmlmfedaa.Nm
theorem info23 : (Try.prog.info? 23).map (fun i => (i.zero, i.size, i.bytes)) = some (some (.int .u32 0), 1, 4) := by kernel_rfl
def wv (x : Nat) : Value := .int .u32 (x : Int)
/-- a row of the call's own, of these words -/
def RW (w : World) (B : Nat) (A : Option Addr) (n cap : Nat) (l : List Nat) : Prop := l.length = n ∧ w.ownsRow B 23 1 (.slice A n cap) n (l.map wv)
theorem RW.nil (w : World) (B : Nat) : RW w B none 0 0 [] := ⟨rfl, w.ownsRow_nil B 23 1⟩
theorem RW.form {w : World} {B : Nat} {A : Option Addr} {n cap : Nat} {l : List Nat} (h : RW w B A n cap l) : (A = none ∧ n = 0) ∨ ∃ g, A = some ⟨g, 0, none⟩ ∧ B ≤ g ∧ g < w.heap.size := by
  rcases h.2.2 with ⟨h1, h2⟩ | ⟨g, c, cur, h1, h2, h3, _⟩
  · injection h1 with h1 _ _
    exact .inl ⟨h1, h2⟩
  · injection h1 with h1 _ _
    exact .inr ⟨g, h1, h2, lt_of_block h3⟩
theorem RW.ws {w : World} {B : Nat} {A : Option Addr} {n cap : Nat} {l : List Nat} (h : RW w B A n cap l) : Ws w A n l := by
  refine ⟨h.1, fun hn => ?_⟩
  rcases h.form with ⟨_, h0⟩ | ⟨g, rfl, _, _⟩
  · omega
  · refine ⟨g, 0, rfl, fun i hi => ?_⟩
    have hi' : i < l.length := by have := h.1; omega
    have e := h.2.cells (g := g) rfl i (wv (wn l i)) (by rw [List.getElem?_map, wn_eq hi', List.getElem?_eq_getElem hi']; rfl)
    rw [Nm.addr_add] at e
    exact e
theorem RW.below {w w' : World} {B : Nat} {A : Option Addr} {n cap : Nat} {l : List Nat} (h : RW w B A n cap l) (hb : Below w.heap.size w w') : RW w' B A n cap l :=
  ⟨h.1, h.2.kept (row := none) ⟨hb.os, hb.tape, hb.output, hb.size, fun k hk _ => hb.block k hk⟩ (by
    by_cases h : (Value.slice A n cap).ownBlock = none
    · exact .inl h
    · exact .inr h)⟩
theorem RW.drew {w : World} {B : Nat} {A : Option Addr} {n cap : Nat} {l : List Nat} (h : RW w B A n cap l) : RW w.drew B A n cap l := h
theorem RW.drewN {w : World} {B : Nat} {A : Option Addr} {n cap : Nat} {l : List Nat} (h : RW w B A n cap l) (k : Nat) : RW (w.drewN k) B A n cap l := h
/-- a cell of another block is set -/
theorem RW.set {w : World} {B : Nat} {A : Option Addr} {n cap : Nat} {l : List Nat} (h : RW w B A n cap l) (g i : Nat) (hg : g < B) (v : Value) : RW (w.setCell ⟨g, i, none⟩ v) B A n cap l := by
  refine ⟨h.1, h.2.kept (row := some g) ⟨rfl, rfl, rfl, by simp [World.setCell], fun k _ hk => Below.heap_setCell _ _ _ _ (fun e => hk (by simp [e]))⟩ ?_⟩
  rcases h.form with ⟨rfl, _⟩ | ⟨g', rfl, h1, _⟩
  · exact .inl rfl
  · refine .inr ?_
    simp only [Value.ownBlock]
    intro e
    injection e with e
    omega
/-- one word more -/
theorem app_word {w : World} {ops : Array Oper} {rest : List Oper} {o : Oper} {a : Act} {Q : Exit → Act → World → Prop} (hgd : o.guard = none) (s x : Operand)
    (ho : o.op = .call { callee := .builtin .append, args := #[s, x], argTypes := #[22, 22] })
    (B : Nat) (A : Option Addr) (n cap : Nat) (l : List Nat) (hs : a.eval s = .slice A n cap) (hr : RW w B A n cap l)
    (g1 c y : Nat) (hx : a.eval x = .slice (some ⟨g1, 0, none⟩) 1 c) (hy : w.cell? ⟨g1, 0, none⟩ = some (wv y)) (hn : n ≤ 100000) (hB : B ≤ w.heap.size) (H : Nat) (hH : w.heap.size = H)
    (h : ∀ g cap' w', RW w' B (some ⟨g, 0, none⟩) (n + 1) cap' (l ++ [y]) → Below B w w' →
      wpList Try.prog ops Q rest (a.put o.dst (.slice (some ⟨g, 0, none⟩) (n + 1) cap')) w') : wpList Try.prog ops Q (o :: rest) a w := by
  obtain ⟨i0, hi, hz0, hz1, hz2⟩ := info_parts info23
  refine wpList_append_lies w hgd s x 22 ho B 23 i0 _ 1 4 Try.underlying22 hi hz0 hz1 hz2 rfl (by decide) _ n (l.map wv) hs hr.2 ⟨g1, 0, none⟩ 1 c [wv y] hx rfl ?_ ?_ (by omega)
    (by unfold maxLen; omega) (by omega) hB H hH ?_
  · intro j u hu
    match j, hu with
    | 0, hu => simp at hu; subst hu; exact hy
    | j + 1, hu => simp at hu
  · intro u hu
    simp at hu
    subst hu
    rfl
  · intro g cap' w' h1 h2 h3 _
    refine h g cap' w' ⟨by simp [hr.1], by simpa using h1⟩ ?_
    refine (Below.refl B w).grown h2 hB fun k hk => ?_
    exact (hr.2.lt k hk).1
/-- one word more, at a step of a region that draws -/
theorem step_app_word {w : World} {ops : Array Oper} {o : Oper} {a : Act} {K : Act → World → Prop} {Q : Exit → Act → World → Prop} {E : Prop} (hgd : o.guard = none) (s x : Operand)
    (ho : o.op = .call { callee := .builtin .append, args := #[s, x], argTypes := #[22, 22] })
    (B : Nat) (A : Option Addr) (n cap : Nat) (l : List Nat) (hs : a.eval s = .slice A n cap) (hr : RW w B A n cap l)
    (g1 c y : Nat) (hx : a.eval x = .slice (some ⟨g1, 0, none⟩) 1 c) (hy : w.cell? ⟨g1, 0, none⟩ = some (wv y)) (hn : n ≤ 100000) (hB : B ≤ w.heap.size) (H : Nat) (hH : w.heap.size = H)
    (h : ∀ g cap' w', RW w' B (some ⟨g, 0, none⟩) (n + 1) cap' (l ++ [y]) → Below B w w' →
      K (a.put o.dst (.slice (some ⟨g, 0, none⟩) (n + 1) cap')) w') : if Region.wanted o (yielded ops a.tmps) = true then Oper.wp Try.prog o a w K Q else E := by
  obtain ⟨i0, hi, hz0, hz1, hz2⟩ := info_parts info23
  refine step_append_lies w hgd s x 22 ho B 23 i0 _ 1 4 Try.underlying22 hi hz0 hz1 hz2 rfl (by decide) _ n (l.map wv) hs hr.2 ⟨g1, 0, none⟩ 1 c [wv y] hx rfl ?_ ?_ (by omega)
    (by unfold maxLen; omega) (by omega) hB H hH ?_
  · intro j u hu
    match j, hu with
    | 0, hu => simp at hu; subst hu; exact hy
    | j + 1, hu => simp at hu
  · intro u hu
    simp at hu
    subst hu
    rfl
  · intro g cap' w' h1 h2 h3 _
    refine h g cap' w' ⟨by simp [hr.1], by simpa using h1⟩ ?_
    refine (Below.refl B w).grown h2 hB fun k hk => ?_
    exact (hr.2.lt k hk).1
end Xe
end Go.Proofs.Ytkbelpkmlmfedaa
