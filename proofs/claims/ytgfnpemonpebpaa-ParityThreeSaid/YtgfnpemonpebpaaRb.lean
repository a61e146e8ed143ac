/-
  A list of bytes that a call makes by appending: what it owns, and one byte more.
-/
import Derived.Test.YtgfnpemonpebpaaFi
import Derived.OwnWalk
import Derived.Deep.AppendLies
import Derived.Maps.AppendAt
namespace Go.Proofs.Ytgfnpemonpebpaa
open Go.RowKit
/-- a byte's cell -/
def bv (x : Nat) : Value := .int .u8 (x : Int)
/-- a row of the call's own, of these bytes -/
def RB (w : World) (B : Nat) (A : Option Addr) (n cap : Nat) (l : List Nat) : Prop := l.length = n ∧ Gf.Bytes l ∧ w.ownsRow B 5 1 (.slice A n cap) n (l.map bv)
theorem RB.nil (w : World) (B : Nat) : RB w B none 0 0 [] := ⟨rfl, (fun _ hy => nomatch hy), w.ownsRow_nil B 5 1⟩
theorem RB.form {w : World} {B : Nat} {A : Option Addr} {n cap : Nat} {l : List Nat} (h : RB w B A n cap l) : (A = none ∧ n = 0) ∨ ∃ g, A = some ⟨g, 0, none⟩ ∧ B ≤ g ∧ g < w.heap.size := by
  rcases h.2.2.2 with ⟨h1, h2⟩ | ⟨g, c, cur, h1, h2, h3, _⟩
  · injection h1 with h1 _ _
    exact .inl ⟨h1, h2⟩
  · injection h1 with h1 _ _
    exact .inr ⟨g, h1, h2, lt_of_block h3⟩
theorem RB.bs {w : World} {B : Nat} {A : Option Addr} {n cap : Nat} {l : List Nat} (h : RB w B A n cap l) : Bs w A n l := by
  refine ⟨h.1, h.2.1, fun hn => ?_⟩
  rcases h.form with ⟨_, h0⟩ | ⟨g, rfl, _, _⟩
  · omega
  · refine ⟨g, 0, rfl, fun i hi => ?_⟩
    have e := h.2.2.cells (g := g) rfl i (bv (Gf.nth l i)) (by
      have hi' : i < l.length := by have := h.1; omega
      rw [List.getElem?_map, Gf.nth_eq, List.getElem?_eq_getElem hi']; rfl)
    have ea : (⟨g, 0, none⟩ : Addr).add i = ⟨g, 0 + i, none⟩ := by
      unfold Addr.add
      split
      · rename_i h; subst h; rfl
      · rfl
    rw [ea] at e
    exact e
theorem RB.kept {w w' : World} {B : Nat} {A : Option Addr} {n cap : Nat} {l : List Nat} {row : Option Nat} (h : RB w B A n cap l) (hg : w.grownBy w' row) (hne : ∀ g, A = some ⟨g, 0, none⟩ → some g ≠ row) : RB w' B A n cap l := by
  refine ⟨h.1, h.2.1, h.2.2.kept hg ?_⟩
  rcases h.form with ⟨rfl, _⟩ | ⟨g, rfl, _, _⟩
  · exact .inl rfl
  · exact .inr (hne g rfl)
theorem RB.dr {w w' : World} {B : Nat} {A : Option Addr} {n cap : Nat} {l : List Nat} (h : RB w B A n cap l) (hd : Dr w w') : RB w' B A n cap l := by
  obtain ⟨k, rfl⟩ := hd
  exact h
theorem RB.alloc {w : World} {B : Nat} {A : Option Addr} {n cap : Nat} {l : List Nat} (h : RB w B A n cap l) (o : Obj) : RB (w.alloc o) B A n cap l := ⟨h.1, h.2.1, h.2.2.alloc o⟩
/-- one byte more -/
theorem app_byte {w : World} {ops : Array Oper} {rest : List Oper} {o : Oper} {a : Act} {Q : Exit → Act → World → Prop} (hgd : o.guard = none) (s x : Operand)
    (ho : o.op = .call { callee := .builtin .append, args := #[s, x], argTypes := #[36, 36] })
    (B : Nat) (A : Option Addr) (n cap : Nat) (l : List Nat) (hs : a.eval s = .slice A n cap) (hr : RB w B A n cap l)
    (g1 y c : Nat) (hx : a.eval x = .slice (some ⟨g1, 0, none⟩) 1 c) (hy : w.cell? ⟨g1, 0, none⟩ = some (bv y)) (hyb : y < 256) (hn : n ≤ 1000) (hB : B ≤ w.heap.size) (H : Nat) (hH : w.heap.size = H)
    (h : ∀ g cap' w', RB w' B (some ⟨g, 0, none⟩) (n + 1) cap' (l ++ [y]) → w.grownBy w' (Value.slice A n cap).ownBlock → (A = some ⟨g, 0, none⟩ ∨ g = H) → Below B w w' →
      wpList Try.prog ops Q rest (a.put o.dst (.slice (some ⟨g, 0, none⟩) (n + 1) cap')) w') : wpList Try.prog ops Q (o :: rest) a w := by
  obtain ⟨i0, hi, hz0, hz1, hz2⟩ := info_parts info5
  refine wpList_append_lies w hgd s x 36 ho B 5 i0 (.int .u8 0) 1 1 Try.underlying36 hi hz0 hz1 hz2 rfl (by decide) _ n (l.map bv) hs hr.2.2 ⟨g1, 0, none⟩ 1 c [bv y] hx rfl ?_ ?_ (by omega)
    (by unfold maxLen; omega) (by omega) hB H hH ?_
  · intro j u hu
    match j, hu with
    | 0, hu =>
      simp at hu
      subst hu
      exact hy
  · intro u hu
    simp at hu
    subst hu
    rfl
  · intro g cap' w' h1 h2 h3 _
    refine h g cap' w' ⟨by simp [hr.1], ?_, by simpa [bv] using h1⟩ h2 ?_ ?_
    · intro z hz
      rcases List.mem_append.1 hz with hz | hz
      · exact hr.2.1 z hz
      · simp at hz; omega
    · rcases hr.form with ⟨rfl, _⟩ | ⟨g', rfl, _, _⟩
      · rcases h3 with h3 | h3
        · cases h3
        · exact .inr h3
      · rcases h3 with h3 | h3
        · refine .inl ?_
          have : g' = g := by simpa [Value.ownBlock] using h3
          rw [this]
        · exact .inr h3
    · refine (Below.refl _ _).grown h2 hB fun k hk => ?_
      exact (hr.2.2.lt k hk).1
theorem RB.rg {w : World} {B g : Nat} {n cap : Nat} {l : List Nat} (h : RB w B (some ⟨g, 0, none⟩) n cap l) : Rg w g 0 l := by
  by_cases hn : 0 < n
  · obtain ⟨g', o', he, hc⟩ := h.bs.2.2 hn
    injection he with he
    injection he with h1 h2 _
    subst h1 h2
    intro j v hj
    have hjl : j < l.length := by
      have := (List.getElem?_eq_some_iff.1 hj).1
      rw [vl_length] at this; exact this
    rw [vl_get hjl] at hj
    rw [← Option.some.inj hj]
    exact hc j (by have := h.1; omega)
  · have : l = [] := List.length_eq_zero_iff.1 (by have := h.1; omega)
    subst this
    intro j v hj
    simp [vl] at hj
theorem RB.below {w w' : World} {B : Nat} {A : Option Addr} {n cap : Nat} {l : List Nat} (h : RB w B A n cap l) (hb : Below w.heap.size w w') : RB w' B A n cap l :=
  h.kept (row := none) ⟨hb.os, hb.tape, hb.output, hb.size, fun k hk _ => hb.block k hk⟩ (fun _ _ => by simp)
/-- a row of parts of the call's own -/
def RP (w : World) (B : Nat) (A : Option Addr) (n cap : Nat) (l : List (Int × ByteArray)) : Prop := l.length = n ∧ w.ownsRow B 29 2 (.slice A n cap) n (fl l)
theorem RP.below {w w' : World} {B : Nat} {A : Option Addr} {n cap : Nat} {l : List (Int × ByteArray)} (h : RP w B A n cap l) (hb : Below w.heap.size w w') : RP w' B A n cap l :=
  ⟨h.1, h.2.kept (row := none) ⟨hb.os, hb.tape, hb.output, hb.size, fun k hk _ => hb.block k hk⟩ (by
    by_cases h : (Value.slice A n cap).ownBlock = none
    · exact .inl h
    · exact .inr h)⟩
theorem RP.form {w : World} {B : Nat} {A : Option Addr} {n cap : Nat} {l : List (Int × ByteArray)} (h : RP w B A n cap l) : (A = none ∧ n = 0) ∨ ∃ g, A = some ⟨g, 0, none⟩ ∧ B ≤ g ∧ g < w.heap.size := by
  rcases h.2.2 with ⟨h1, h2⟩ | ⟨g, c, cur, h1, h2, h3, _⟩
  · injection h1 with h1 _ _
    exact .inl ⟨h1, h2⟩
  · injection h1 with h1 _ _
    exact .inr ⟨g, h1, h2, lt_of_block h3⟩
theorem RP.cap {w : World} {B : Nat} {A : Option Addr} {n cap : Nat} {l : List (Int × ByteArray)} (h : RP w B A n cap l) : n ≤ cap := by
  rcases h.2.2 with ⟨h1, h2⟩ | ⟨g, c, cur, h1, h2, h3, h4, _⟩
  · omega
  · injection h1 with _ _ h1
    omega
theorem RP.pl {w : World} {B g : Nat} {n cap : Nat} {l : List (Int × ByteArray)} (h : RP w B (some ⟨g, 0, none⟩) n cap l) : Pl w g 0 l := Pl.of_row h.2
/-- one part more -/
theorem app_part {w : World} {ops : Array Oper} {rest : List Oper} {o : Oper} {a : Act} {Q : Exit → Act → World → Prop} (hgd : o.guard = none) (s x : Operand)
    (ho : o.op = .call { callee := .builtin .append, args := #[s, x], argTypes := #[24, 24] })
    (B : Nat) (A : Option Addr) (n cap : Nat) (l : List (Int × ByteArray)) (hs : a.eval s = .slice A n cap) (hr : RP w B A n cap l)
    (g1 c : Nat) (y : Int × ByteArray) (hx : a.eval x = .slice (some ⟨g1, 0, none⟩) 1 c) (hy1 : w.cell? ⟨g1, 0, none⟩ = some (.int .i64 y.1)) (hy2 : w.cell? ⟨g1, 1, none⟩ = some (.string y.2)) (hn : n ≤ 1000) (hB : B ≤ w.heap.size) (H : Nat) (hH : w.heap.size = H)
    (h : ∀ g cap' w', RP w' B (some ⟨g, 0, none⟩) (n + 1) cap' (l ++ [y]) → Below B w w' →
      wpList Try.prog ops Q rest (a.put o.dst (.slice (some ⟨g, 0, none⟩) (n + 1) cap')) w') : wpList Try.prog ops Q (o :: rest) a w := by
  obtain ⟨i0, hi, hz0, hz1, hz2⟩ := info_parts info29
  refine wpList_append_lies w hgd s x 24 ho B 29 i0 _ 2 24 Try.underlying24 hi hz0 hz1 hz2 rfl (by decide) _ n (fl l) hs hr.2 ⟨g1, 0, none⟩ 1 c [.int .i64 y.1, .string y.2] hx rfl ?_ ?_ (by omega)
    (by unfold maxLen; omega) (by omega) hB H hH ?_
  · intro j u hu
    match j, hu with
    | 0, hu => simp at hu; subst hu; exact hy1
    | 1, hu => simp at hu; subst hu; exact hy2
    | j + 2, hu => simp at hu
  · intro u hu
    simp at hu
    rcases hu with rfl | rfl <;> rfl
  · intro g cap' w' h1 h2 h3 _
    refine h g cap' w' ⟨by simp [hr.1], by rw [fl_append]; exact h1⟩ ?_
    refine (Below.refl B w).grown h2 hB fun k hk => ?_
    exact (hr.2.lt k hk).1
end Go.Proofs.Ytgfnpemonpebpaa
