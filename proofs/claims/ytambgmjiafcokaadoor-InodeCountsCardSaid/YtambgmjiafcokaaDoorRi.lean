/-
  A row of the call's own of numbers.
-/
import Derived.Test.YtambgmjiafcokaaDoorGp
namespace Go.Proofs.YtambgmjiafcokaaDoor
set_option linter.unusedVariables false
set_option maxRecDepth 100000
set_option linter.unusedSimpArgs false
open Go.RowKit
namespace Dw
open _root_.Go.Proofs.YtambgmjiafcokaaDoor.Nm
def iv (x : Int) : Value := .int .i64 x
theorem info3 : (Tryd.prog.info? 3).map (fun i => (i.zero, i.size, i.bytes)) = some (some (.int .i64 0), 1, 8) := by kernel_rfl
/-- a row of the call's own, of these numbers -/
def RI (w : World) (B : Nat) (A : Option Addr) (n cap : Nat) (l : List Int) : Prop := l.length = n ∧ w.ownsRow B 3 1 (.slice A n cap) n (l.map iv)
theorem RI.nil (w : World) (B : Nat) : RI w B none 0 0 [] := ⟨rfl, w.ownsRow_nil B 3 1⟩
theorem RI.form {w : World} {B : Nat} {A : Option Addr} {n cap : Nat} {l : List Int} (h : RI w B A n cap l) : (A = none ∧ n = 0 ∧ cap = 0) ∨ ∃ g, A = some ⟨g, 0, none⟩ ∧ B ≤ g ∧ g < w.heap.size := by
  rcases h.2.2 with ⟨h1, h2⟩ | ⟨g, c, cur, h1, h2, h3, _⟩
  · injection h1 with h1 _ h4
    exact .inl ⟨h1, h2, h4⟩
  · injection h1 with h1 _ _
    exact .inr ⟨g, h1, h2, lt_of_block h3⟩
theorem RI.kept {w w' : World} {B : Nat} {A : Option Addr} {n cap : Nat} {l : List Int} {row : Option Nat} (h : RI w B A n cap l) (hg : w.grownBy w' row) (hne : ∀ g, A = some ⟨g, 0, none⟩ → some g ≠ row) : RI w' B A n cap l := by
  refine ⟨h.1, h.2.kept hg ?_⟩
  rcases h.form with ⟨rfl, _⟩ | ⟨g, rfl, _, _⟩
  · exact .inl rfl
  · exact .inr (hne g rfl)
theorem RI.dr {w w' : World} {B : Nat} {A : Option Addr} {n cap : Nat} {l : List Int} (h : RI w B A n cap l) (hd : Dr w w') : RI w' B A n cap l := by
  obtain ⟨k, rfl⟩ := hd
  exact h
theorem RI.alloc {w : World} {B : Nat} {A : Option Addr} {n cap : Nat} {l : List Int} (h : RI w B A n cap l) (o : Obj) : RI (w.alloc o) B A n cap l := ⟨h.1, h.2.alloc o⟩
theorem RI.below {w w' : World} {B : Nat} {A : Option Addr} {n cap : Nat} {l : List Int} (h : RI w B A n cap l) (hb : Below w.heap.size w w') : RI w' B A n cap l := by
  refine ⟨h.1, h.2.1, ?_⟩
  rcases h.2.2 with h1 | ⟨g, c, cur, h1, h2, h3, h4⟩
  · exact .inl h1
  · exact .inr ⟨g, c, cur, h1, h2, (hb.block g (lt_of_block h3)).trans h3, h4⟩
/-- one number more -/
theorem app_int {w : World} {ops : Array Oper} {rest : List Oper} {o : Oper} {a : Act} {Q : Exit → Act → World → Prop} (hgd : o.guard = none) (s x : Operand)
    (ho : o.op = .call { callee := .builtin .append, args := #[s, x], argTypes := #[31, 31] })
    (B : Nat) (A : Option Addr) (n cap : Nat) (l : List Int) (hs : a.eval s = .slice A n cap) (hr : RI w B A n cap l)
    (g1 : Nat) (y : Int) (c : Nat) (hx : a.eval x = .slice (some ⟨g1, 0, none⟩) 1 c) (hy : w.cell? ⟨g1, 0, none⟩ = some (.int .i64 y)) (hn : n ≤ 4000000000) (hB : B ≤ w.heap.size) (H : Nat) (hH : w.heap.size = H)
    (h : ∀ g cap' w', RI w' B (some ⟨g, 0, none⟩) (n + 1) cap' (l ++ [y]) → w.grownBy w' (Value.slice A n cap).ownBlock → (A = some ⟨g, 0, none⟩ ∨ g = H) → Below B w w' →
      wpList Tryd.prog ops Q rest (a.put o.dst (.slice (some ⟨g, 0, none⟩) (n + 1) cap')) w') : wpList Tryd.prog ops Q (o :: rest) a w := by
  obtain ⟨i0, hi, hz0, hz1, hz2⟩ := info_parts info3
  refine wpList_append_lies w hgd s x 31 ho B 3 i0 (.int .i64 0) 1 8 Tryd.underlying31 hi hz0 hz1 hz2 rfl (by decide) _ n (l.map iv) hs hr.2 ⟨g1, 0, none⟩ 1 c [iv y] hx rfl ?_ ?_ (by omega)
    (by unfold maxLen; omega) (by omega) hB H hH ?_
  · intro j u hu
    match j, hu with
    | 0, hu =>
      simp at hu
      subst hu
      exact hy
  · intro u hu
    simp at hu
    subst hu
    rfl
  · intro g cap' w' h1 h2 h3 _
    refine h g cap' w' ⟨by simp [hr.1], by simpa [iv] using h1⟩ h2 ?_ ?_
    · rcases hr.form with ⟨rfl, _⟩ | ⟨g', rfl, _, _⟩
      · rcases h3 with h3 | h3
        · cases h3
        · exact .inr h3
      · rcases h3 with h3 | h3
        · refine .inl ?_
          have : g' = g := by simpa [Value.ownBlock] using h3
          rw [this]
        · exact .inr h3
    · refine (Below.refl _ _).grown h2 hB fun k hk => ?_
      exact (hr.2.lt k hk).1
theorem RI.ne {w : World} {B n cap k : Nat} {A : Option Addr} {l : List Int} {t : TypeId} {cs : Array Value} (hr : RI w B A n cap l) (ho : Nm.Own w k t cs) (ht : t ≠ 3) : some k ≠ (Value.slice A n cap).ownBlock := fun e => by
  obtain ⟨o, s, rfl⟩ := ownBlock_some e.symm
  rcases hr.2.2 with ⟨e', _⟩ | ⟨g', c, cur, e', _, hg, _⟩
  · cases e'
  · cases e'
    unfold Nm.Own at ho
    rw [hg] at ho
    cases ho
    exact ht rfl
theorem RI.cell {w : World} {B g n cap : Nat} {l : List Int} (h : RI w B (some ⟨g, 0, none⟩) n cap l) {i : Nat} (hi : i < n) : w.cell? ⟨g, i, none⟩ = some (.int .i64 (l.getD i 0)) := by
  have hi' : i < l.length := by have := h.1; omega
  have e := h.2.cells (g := g) rfl i (iv (l.getD i 0)) (by rw [List.getElem?_map, List.getD_eq_getElem?_getD, List.getElem?_eq_getElem hi']; rfl)
  rw [addr_add, Nat.zero_add] at e
  exact e
theorem rs_own {w : World} {B g n c : Nat} {l : List ByteArray} (hr : RS w B (some ⟨g, 0, none⟩) n c l) : ∃ cs, Nm.Own w g 9 cs := by
  rcases hr.2.2 with ⟨e', _⟩ | ⟨g', c, cur, e', _, hg, _⟩
  · cases e'
  · cases e'
    exact ⟨_, hg⟩
theorem rs_kept {w w' : World} {B B' n c n' c' : Nat} {A A' : Option Addr} {l : List ByteArray} {K : List Int} (hr : RS w B A n c l) (hi : RI w B' A' n' c' K) (hg : w.grownBy w' (Value.slice A' n' c').ownBlock) : RS w' B A n c l :=
  hr.kept hg fun g e => by
    subst e
    obtain ⟨cs, ho⟩ := rs_own hr
    exact hi.ne ho (by decide)
end Dw
end Go.Proofs.YtambgmjiafcokaaDoor
