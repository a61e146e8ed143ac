/-
  Rows of values of one cell: one that came in, one that a call makes by appending.
-/
import Derived.Test.YtaoaebdjinlcnaaDoorUNg
import Derived.OwnWalk
import Derived.Deep.AppendLies
import Derived.Deep.Draws
import Derived.Maps.AppendAt
import Derived.Laws.AppendOwnNone
set_option linter.unusedVariables false
set_option linter.unusedSimpArgs false
set_option maxRecDepth 100000
namespace Go.Proofs.YtaoaebdjinlcnaaDoor.Un
open Go.RowKit
namespace Nm
/-- nothing but draws stands between two worlds -/
def Dr (w w' : World) : Prop := ∃ n, w' = w.drewN n
theorem Dr.refl (w : World) : Dr w w := ⟨0, rfl⟩
theorem Dr.trans {a b c : World} (h : Dr a b) (k : Dr b c) : Dr a c := by
  obtain ⟨n, rfl⟩ := h
  obtain ⟨m, rfl⟩ := k
  exact ⟨n + m, by rw [World.drewN_drewN]⟩
theorem Dr.drewN {a b : World} (h : Dr a b) (n : Nat) : Dr a (b.drewN n) := h.trans ⟨n, rfl⟩
theorem Dr.drew {a b : World} (h : Dr a b) : Dr a b.drew := h.trans ⟨1, rfl⟩
theorem Dr.cell {a b : World} (h : Dr a b) (x : Addr) : b.cell? x = a.cell? x := by obtain ⟨n, rfl⟩ := h; rfl
theorem Dr.size {a b : World} (h : Dr a b) : b.heap.size = a.heap.size := by obtain ⟨n, rfl⟩ := h; rfl
theorem below_dr {B : Nat} {a w w' : World} (h : Below B a w) (k : Dr w w') : Below B a w' := by
  obtain ⟨n, rfl⟩ := k
  exact ⟨h.os, h.tape, h.output, h.size, h.block⟩
/-- block g is just these cells -/
def Own (w : World) (g : Nat) (t : TypeId) (cs : Array Value) : Prop := w.heap[g]? = some (.cells cs t (0, 0))
theorem Own.cell {w : World} {g : Nat} {t : TypeId} {cs : Array Value} (h : Own w g t cs) (i : Nat) : w.cell? ⟨g, i, none⟩ = cs[i]? := by
  unfold Own at h; simp [World.cell?, h]
theorem Own.frozen {w : World} {g : Nat} {t : TypeId} {cs : Array Value} (h : Own w g t cs) (i : Nat) : w.frozen? ⟨g, i, none⟩ = false := by
  unfold Own at h; simp [World.frozen?, h]
theorem Own.lt {w : World} {g : Nat} {t : TypeId} {cs : Array Value} (h : Own w g t cs) : g < w.heap.size := lt_of_block h
theorem Own.new (w : World) (t : TypeId) (cs : Array Value) : Own (w.alloc (.cells cs t)) w.heap.size t cs := by
  unfold Own
  show (w.heap.push _)[w.heap.size]? = _
  simp
theorem Own.set {w : World} {g : Nat} {t : TypeId} {cs : Array Value} (h : Own w g t cs) (i : Nat) (u : Value) : Own (w.setCell ⟨g, i, none⟩ u) g t (cs.setIfInBounds i u) := by
  unfold Own at h ⊢
  simp [World.setCell, Array.getElem?_modify, h]
theorem Own.alloc {w : World} {g : Nat} {t : TypeId} {cs : Array Value} (h : Own w g t cs) (o : Obj) : Own (w.alloc o) g t cs := (Below.heap_alloc w o g h.lt).trans h
theorem own1 (w : World) (v : Value) (t : TypeId) : (w.alloc (.cells #[v] t)).cell? ⟨w.heap.size, 0, none⟩ = some v := (Own.new w t #[v]).cell 0
theorem addr_add (g off j : Nat) : (⟨g, off, none⟩ : Addr).add j = ⟨g, off + j, none⟩ := by
  unfold Addr.add
  split
  · rename_i h; subst h; rfl
  · rfl

/-- a text's cell; the i-th text -/
def sv (x : ByteArray) : Value := .string x
def nth (l : List ByteArray) (i : Nat) : ByteArray := l.getD i ByteArray.empty
theorem nth_eq {l : List ByteArray} {i : Nat} (h : i < l.length) : nth l i = l[i] := by unfold nth; simp [List.getD_eq_getElem?_getD, h]
/-- the slice reads as these texts -/
def Ts (w : World) (a : Option Addr) (len : Nat) (l : List ByteArray) : Prop :=
  l.length = len ∧ (0 < len → ∃ b off, a = some ⟨b, off, none⟩ ∧ ∀ i, i < len → w.cell? ⟨b, off + i, none⟩ = some (.string (nth l i)))
theorem Ts.dr {a b : World} {x : Option Addr} {len : Nat} {l : List ByteArray} (h : Ts a x len l) (k : Dr a b) : Ts b x len l :=
  ⟨h.1, fun h0 => by
    obtain ⟨g, off, e, hc⟩ := h.2 h0
    exact ⟨g, off, e, fun i hi => (k.cell _).trans (hc i hi)⟩⟩
theorem Ts.below {a b : World} {x : Option Addr} {len : Nat} {l : List ByteArray} (h : Ts a x len l) (k : Below a.heap.size a b) : Ts b x len l :=
  ⟨h.1, fun h0 => by
    obtain ⟨g, off, e, hc⟩ := h.2 h0
    exact ⟨g, off, e, fun i hi => (k.cell (World.block_lt_of_cell? _ _ (hc i hi))).trans (hc i hi)⟩⟩
/-- a row of the call's own, of these texts -/
def RS (w : World) (B : Nat) (A : Option Addr) (n cap : Nat) (l : List ByteArray) : Prop := l.length = n ∧ w.ownsRow B 9 1 (.slice A n cap) n (l.map sv)
theorem RS.nil (w : World) (B : Nat) : RS w B none 0 0 [] := ⟨rfl, w.ownsRow_nil B 9 1⟩
theorem RS.form {w : World} {B : Nat} {A : Option Addr} {n cap : Nat} {l : List ByteArray} (h : RS w B A n cap l) : (A = none ∧ n = 0 ∧ cap = 0) ∨ ∃ g, A = some ⟨g, 0, none⟩ ∧ B ≤ g ∧ g < w.heap.size := by
  rcases h.2.2 with ⟨h1, h2⟩ | ⟨g, c, cur, h1, h2, h3, _⟩
  · injection h1 with h1 _ h4
    exact .inl ⟨h1, h2, h4⟩
  · injection h1 with h1 _ _
    exact .inr ⟨g, h1, h2, lt_of_block h3⟩
theorem RS.ts {w : World} {B : Nat} {A : Option Addr} {n cap : Nat} {l : List ByteArray} (h : RS w B A n cap l) : Ts w A n l := by
  refine ⟨h.1, fun hn => ?_⟩
  rcases h.form with ⟨_, h0, _⟩ | ⟨g, rfl, _, _⟩
  · omega
  · refine ⟨g, 0, rfl, fun i hi => ?_⟩
    have hi' : i < l.length := by have := h.1; omega
    have e := h.2.cells (g := g) rfl i (sv (nth l i)) (by rw [List.getElem?_map, nth_eq hi', List.getElem?_eq_getElem hi']; rfl)
    rw [addr_add] at e
    exact e
theorem RS.kept {w w' : World} {B : Nat} {A : Option Addr} {n cap : Nat} {l : List ByteArray} {row : Option Nat} (h : RS w B A n cap l) (hg : w.grownBy w' row) (hne : ∀ g, A = some ⟨g, 0, none⟩ → some g ≠ row) : RS w' B A n cap l := by
  refine ⟨h.1, h.2.kept hg ?_⟩
  rcases h.form with ⟨rfl, _⟩ | ⟨g, rfl, _, _⟩
  · exact .inl rfl
  · exact .inr (hne g rfl)
theorem RS.dr {w w' : World} {B : Nat} {A : Option Addr} {n cap : Nat} {l : List ByteArray} (h : RS w B A n cap l) (hd : Dr w w') : RS w' B A n cap l := by
  obtain ⟨k, rfl⟩ := hd
  exact h
theorem RS.alloc {w : World} {B : Nat} {A : Option Addr} {n cap : Nat} {l : List ByteArray} (h : RS w B A n cap l) (o : Obj) : RS (w.alloc o) B A n cap l := ⟨h.1, h.2.alloc o⟩
theorem RS.below {w w' : World} {B : Nat} {A : Option Addr} {n cap : Nat} {l : List ByteArray} (h : RS w B A n cap l) (hb : Below w.heap.size w w') : RS w' B A n cap l := by
  refine ⟨h.1, h.2.1, ?_⟩
  rcases h.2.2 with h1 | ⟨g, c, cur, h1, h2, h3, h4⟩
  · exact .inl h1
  · exact .inr ⟨g, c, cur, h1, h2, (hb.block g (lt_of_block h3)).trans h3, h4⟩
theorem RS.empty {w : World} {B g : Nat} (h : Own w g 9 #[]) (hB : B ≤ g) : RS w B (some ⟨g, 0, none⟩) 0 0 [] :=
  ⟨rfl, rfl, .inr ⟨g, 0, #[], rfl, hB, h, Nat.le_refl _, by omega, rfl, rfl⟩⟩
theorem info9 : (Tryd.prog.info? 9).map (fun i => (i.zero, i.size, i.bytes)) = some (some (.string ⟨#[]⟩), 1, 16) := by kernel_rfl
/-- one text more -/
theorem app_text {w : World} {ops : Array Oper} {rest : List Oper} {o : Oper} {a : Act} {Q : Exit → Act → World → Prop} (hgd : o.guard = none) (s x : Operand)
    (ho : o.op = .call { callee := .builtin .append, args := #[s, x], argTypes := #[36, 36] })
    (B : Nat) (A : Option Addr) (n cap : Nat) (l : List ByteArray) (hs : a.eval s = .slice A n cap) (hr : RS w B A n cap l)
    (g1 : Nat) (y : ByteArray) (c : Nat) (hx : a.eval x = .slice (some ⟨g1, 0, none⟩) 1 c) (hy : w.cell? ⟨g1, 0, none⟩ = some (.string y)) (hn : n ≤ 4000000000) (hB : B ≤ w.heap.size) (H : Nat) (hH : w.heap.size = H)
    (h : ∀ g cap' w', RS w' B (some ⟨g, 0, none⟩) (n + 1) cap' (l ++ [y]) → w.grownBy w' (Value.slice A n cap).ownBlock → (A = some ⟨g, 0, none⟩ ∨ g = H) → Below B w w' →
      wpList Tryd.prog ops Q rest (a.put o.dst (.slice (some ⟨g, 0, none⟩) (n + 1) cap')) w') : wpList Tryd.prog ops Q (o :: rest) a w := by
  obtain ⟨i0, hi, hz0, hz1, hz2⟩ := info_parts info9
  refine wpList_append_lies w hgd s x 36 ho B 9 i0 (.string ⟨#[]⟩) 1 16 Tryd.underlying36 hi hz0 hz1 hz2 rfl (by decide) _ n (l.map sv) hs hr.2 ⟨g1, 0, none⟩ 1 c [sv y] hx rfl ?_ ?_ (by omega)
    (by unfold maxLen; omega) (by omega) hB H hH ?_
  · intro j u hu
    match j, hu with
    | 0, hu =>
      simp at hu
      subst hu
      exact hy
  · intro u hu
    simp at hu
    subst hu
    rfl
  · intro g cap' w' h1 h2 h3 _
    refine h g cap' w' ⟨by simp [hr.1], by simpa [sv] using h1⟩ h2 ?_ ?_
    · rcases hr.form with ⟨rfl, _⟩ | ⟨g', rfl, _, _⟩
      · rcases h3 with h3 | h3
        · cases h3
        · exact .inr h3
      · rcases h3 with h3 | h3
        · refine .inl ?_
          have : g' = g := by simpa [Value.ownBlock] using h3
          rw [this]
        · exact .inr h3
    · refine (Below.refl _ _).grown h2 hB fun k hk => ?_
      exact (hr.2.lt k hk).1
/-- a list of texts behind a row that isn't nil -/
theorem app_texts {w : World} {ops : Array Oper} {rest : List Oper} {o : Oper} {a : Act} {Q : Exit → Act → World → Prop} (hgd : o.guard = none) (s x : Operand)
    (ho : o.op = .call { callee := .builtin .append, args := #[s, x], argTypes := #[36, 36] })
    (B : Nat) (g0 n cap : Nat) (l : List ByteArray) (hs : a.eval s = .slice (some ⟨g0, 0, none⟩) n cap) (hr : RS w B (some ⟨g0, 0, none⟩) n cap l)
    (A' : Option Addr) (m c : Nat) (l' : List ByteArray) (hx : a.eval x = .slice A' m c) (hb : Ts w A' m l') (hnil : A' = none → c = 0) (hn : n + m ≤ 4000000000) (hB : B ≤ w.heap.size) (H : Nat) (hH : w.heap.size = H)
    (h : ∀ g cap' w', RS w' B (some ⟨g, 0, none⟩) (n + m) cap' (l ++ l') → w.grownBy w' (some g0) → (g = g0 ∨ g = H) → Below B w w' →
      wpList Tryd.prog ops Q rest (a.put o.dst (.slice (some ⟨g, 0, none⟩) (n + m) cap')) w') : wpList Tryd.prog ops Q (o :: rest) a w := by
  obtain ⟨i0, hi, hz0, hz1, hz2⟩ := info_parts info9
  rcases A' with _ | ad
  · have h0 := hnil rfl
    subst h0
    have hm : m = 0 := by
      rcases Nat.eq_zero_or_pos m with h0 | h0
      · exact h0
      · obtain ⟨_, _, h1, _⟩ := hb.2 h0
        cases h1
    subst hm
    have hl : l' = [] := List.eq_nil_of_length_eq_zero hb.1
    subst hl
    refine wpList_append_own_none hgd s x 36 ho B 9 i0 1 Tryd.underlying36 hi _ n (l.map sv) hs hr.2 hx ?_
    refine h g0 cap w ?_ (World.grownBy.refl w _) (.inl rfl) (Below.refl _ _)
    simpa using hr
  · refine wpList_append_own_at w hgd s x 36 ho B 9 i0 (.string ⟨#[]⟩) 1 16 Tryd.underlying36 hi hz0 hz1 hz2 rfl (by decide) _ n (l.map sv) hs hr.2 ad m c (l'.map sv) hx (by simp [hb.1]) ?_ ?_
      (by unfold maxLen; omega) (by omega) hB ?_
    · intro j u hu
      have hj : j < m := by
        rcases Nat.lt_or_ge j m with h1 | h1
        · exact h1
        · rw [List.getElem?_eq_none (by simp [hb.1]; omega)] at hu; cases hu
      have hj' : j < l'.length := by rw [hb.1]; exact hj
      obtain ⟨g, off, e, hc⟩ := hb.2 (by omega)
      injection e with e
      subst e
      rw [addr_add, hc j hj]
      rw [List.getElem?_map, List.getElem?_eq_getElem hj'] at hu
      simp only [Option.map_some, Option.some.injEq] at hu
      subst hu
      rw [nth_eq hj']
      rfl
    · intro u hu
      obtain ⟨z, _, rfl⟩ := List.mem_map.1 hu
      rfl
    · intro v' w' h1 h2 h4 h3
      have hv : ∃ g cap', v' = .slice (some ⟨g, 0, none⟩) (n + m) cap' := by
        rcases h1.2 with ⟨e, _⟩ | ⟨g, cap', _, e, _⟩
        · have := (h4.1 e).1
          cases this
        · exact ⟨g, cap', e⟩
      obtain ⟨g, cap', e⟩ := hv
      subst e
      refine h g cap' w' ⟨by simp [hr.1, hb.1], by simpa using h1⟩ h2 ?_ ?_
      · rcases h3 with h3 | h3
        · exact .inl (by simpa [Value.ownBlock] using h3)
        · exact .inr (by simp [Value.ownBlock] at h3; omega)
      · refine (Below.refl _ _).grown h2 hB fun k hk => ?_
        exact (hr.2.lt k hk).1
end Nm
end Go.Proofs.YtaoaebdjinlcnaaDoor.Un
