/-
  Rows of writes: one that came in, one that a call makes by appending; a drive's two slices.
-/
import Derived.Test.YtmolbliooaofbaaNr
import Derived.ArgAppend
namespace Go.Proofs.Ytmolbliooaofbaa
set_option linter.unusedVariables false
set_option maxRecDepth 100000
set_option linter.unusedSimpArgs false
open Go.RowKit
namespace Dw
open _root_.Go.Proofs.Ytmolbliooaofbaa.Nm
open Dm (Wr wnth)
def fl (l : List Wr) : List Value := l.flatMap fun x => [.int .i64 x.1, .string x.2]
theorem fl_append (a b : List Wr) : fl (a ++ b) = fl a ++ fl b := by simp [fl]
theorem fl_length (l : List Wr) : (fl l).length = l.length * 2 := by
  induction l with
  | nil => rfl
  | cons x l ih =>
    have e : fl (x :: l) = .int .i64 x.1 :: .string x.2 :: fl l := rfl
    rw [e]; simp [ih]; omega
theorem fl_get : ∀ (l : List Wr) (i : Nat) (x : Wr), l[i]? = some x → (fl l)[i * 2]? = some (.int .i64 x.1) ∧ (fl l)[i * 2 + 1]? = some (.string x.2)
  | [], i, x, h => by simp at h
  | y :: t, 0, x, h => by
    simp at h; subst h
    exact ⟨rfl, rfl⟩
  | y :: t, i + 1, x, h => by
    rw [List.getElem?_cons_succ] at h
    have ih := fl_get t i x h
    have e : fl (y :: t) = .int .i64 y.1 :: .string y.2 :: fl t := rfl
    rw [e, show (i + 1) * 2 = i * 2 + 1 + 1 from by omega]
    simpa only [List.getElem?_cons_succ] using ih
theorem fl_one (l : List Wr) : ∀ u ∈ fl l, u.oneCell' = true := fun u hu => by
  simp only [fl, List.mem_flatMap] at hu
  obtain ⟨x, _, hx⟩ := hu
  simp at hx
  rcases hx with rfl | rfl <;> rfl
/-- writes lie from a place on -/
def Pl (w : World) (b o : Nat) (l : List Wr) : Prop := ∀ i, i < l.length → w.cell? ⟨b, o + i * 2, none⟩ = some (.int .i64 (wnth l i).1) ∧ w.cell? ⟨b, o + i * 2 + 1, none⟩ = some (.string (wnth l i).2)
theorem wget {l : List Wr} {i : Nat} (h : i < l.length) : l[i]? = some (wnth l i) := by
  unfold wnth
  rw [List.getD_eq_getElem?_getD, List.getElem?_eq_getElem h]; rfl
theorem Pl.below {w w' : World} {b o : Nat} {l : List Wr} (h : Pl w b o l) (hb : Below w.heap.size w w') : Pl w' b o l := fun i hi => by
  obtain ⟨h1, h2⟩ := h i hi
  have hl : b < w.heap.size := World.block_lt_of_cell? w _ h1
  exact ⟨(hb.cell (p := ⟨b, o + i * 2, none⟩) hl).trans h1, (hb.cell (p := ⟨b, o + i * 2 + 1, none⟩) hl).trans h2⟩
theorem fl_cells {w : World} {b o : Nat} {l : List Wr} (h : Pl w b o l) : ∀ j u, (fl l)[j]? = some u → w.cell? ⟨b, o + j, none⟩ = some u := fun j u hj => by
  have hjl : j < l.length * 2 := by
    have := (List.getElem?_eq_some_iff.1 hj).1
    rw [fl_length] at this; exact this
  have hj2 : j / 2 < l.length := by omega
  obtain ⟨h1, h2⟩ := h (j / 2) hj2
  obtain ⟨f1, f2⟩ := fl_get l (j / 2) _ (wget hj2)
  rcases Nat.mod_two_eq_zero_or_one j with hm | hm
  · have e : j / 2 * 2 = j := by omega
    rw [e] at h1 f1
    rw [f1] at hj
    rw [← Option.some.inj hj]; exact h1
  · have e : j / 2 * 2 + 1 = j := by omega
    rw [e] at f2
    rw [show o + j / 2 * 2 + 1 = o + j from by omega] at h2
    rw [f2] at hj
    rw [← Option.some.inj hj]; exact h2
/-- a slice of writes that is read -/
structure Pz (w : World) (A : Option Addr) (n cap : Nat) (l : List Wr) : Prop where
  len : l.length = n
  c : 0 < n → ∃ b off, A = some ⟨b, off, none⟩ ∧ Pl w b off l
  z : A = none → n = 0 ∧ cap = 0
  m : n ≤ 100000
theorem Pz.below {a b : World} {A : Option Addr} {n cap : Nat} {l : List Wr} (h : Pz a A n cap l) (k : Below a.heap.size a b) : Pz b A n cap l :=
  ⟨h.len, fun h0 => by
    obtain ⟨g, off, e, hc⟩ := h.c h0
    exact ⟨g, off, e, hc.below k⟩, h.z, h.m⟩
theorem Pz.drewN {a : World} {A : Option Addr} {n cap : Nat} {l : List Wr} (h : Pz a A n cap l) (k : Nat) : Pz (a.drewN k) A n cap l := ⟨h.len, h.c, h.z, h.m⟩
theorem Pz.nil (w : World) : Pz w none 0 0 [] := ⟨rfl, fun h => absurd h (by decide), fun _ => ⟨rfl, rfl⟩, by decide⟩
theorem info47 : (Try.prog.info? 47).map (fun i => (i.zero, i.size, i.bytes)) = some (some (.agg #[.int .i64 0, .string ⟨#[]⟩]), 2, 24) := by kernel_rfl
/-- a row of writes of the call's own -/
def RP (w : World) (B : Nat) (A : Option Addr) (n cap : Nat) (l : List Wr) : Prop := l.length = n ∧ w.ownsRow B 47 2 (.slice A n cap) n (fl l)
theorem RP.below {w w' : World} {B : Nat} {A : Option Addr} {n cap : Nat} {l : List Wr} (h : RP w B A n cap l) (hb : Below w.heap.size w w') : RP w' B A n cap l :=
  ⟨h.1, h.2.kept (row := none) ⟨hb.os, hb.tape, hb.output, hb.size, fun k hk _ => hb.block k hk⟩ (by
    by_cases h : (Value.slice A n cap).ownBlock = none
    · exact .inl h
    · exact .inr h)⟩
theorem RP.form {w : World} {B : Nat} {A : Option Addr} {n cap : Nat} {l : List Wr} (h : RP w B A n cap l) : (A = none ∧ n = 0 ∧ cap = 0) ∨ ∃ g, A = some ⟨g, 0, none⟩ ∧ B ≤ g ∧ g < w.heap.size := by
  rcases h.2.2 with ⟨h1, h2⟩ | ⟨g, c, cur, h1, h2, h3, _⟩
  · injection h1 with h1 _ h4
    exact .inl ⟨h1, h2, h4⟩
  · injection h1 with h1 _ _
    exact .inr ⟨g, h1, h2, lt_of_block h3⟩
theorem Pl.of_row {w : World} {base g n cap : Nat} {l : List Wr} (h : w.ownsRow base 47 2 (.slice (some ⟨g, 0, none⟩) n cap) n (fl l)) : Pl w g 0 l := fun i hi => by
  obtain ⟨h1, h2⟩ := fl_get l i _ (wget hi)
  have hc := h.cells (g := g) rfl
  have k1 := hc _ _ h1
  have k2 := hc _ _ h2
  rw [addr_add] at k1 k2
  exact ⟨k1, k2⟩
theorem RP.pz {w : World} {B : Nat} {A : Option Addr} {n cap : Nat} {l : List Wr} (h : RP w B A n cap l) (hm : n ≤ 100000) : Pz w A n cap l := by
  refine ⟨h.1, fun h0 => ?_, fun e => ?_, hm⟩
  · rcases h.form with ⟨_, h1, _⟩ | ⟨g, rfl, _, _⟩
    · omega
    · exact ⟨g, 0, rfl, Pl.of_row h.2⟩
  · rcases h.form with ⟨_, h1, h2⟩ | ⟨g, rfl, _, _⟩
    · exact ⟨h1, h2⟩
    · cases e
theorem RP.empty {w : World} {B g : Nat} (h : Own w g 47 #[]) (hB : B ≤ g) : RP w B (some ⟨g, 0, none⟩) 0 0 [] :=
  ⟨rfl, rfl, .inr ⟨g, 0, #[], rfl, hB, h, Nat.le_refl _, by omega, rfl, rfl⟩⟩
/-- one write more -/
theorem app_write {w : World} {ops : Array Oper} {rest : List Oper} {o : Oper} {a : Act} {Q : Exit → Act → World → Prop} (hgd : o.guard = none) (s x : Operand)
    (ho : o.op = .call { callee := .builtin .append, args := #[s, x], argTypes := #[23, 23] })
    (B : Nat) (A : Option Addr) (n cap : Nat) (l : List Wr) (hs : a.eval s = .slice A n cap) (hr : RP w B A n cap l)
    (g1 c : Nat) (y : Wr) (hx : a.eval x = .slice (some ⟨g1, 0, none⟩) 1 c) (hy1 : w.cell? ⟨g1, 0, none⟩ = some (.int .i64 y.1)) (hy2 : w.cell? ⟨g1, 1, none⟩ = some (.string y.2)) (hn : n ≤ 100000) (hB : B ≤ w.heap.size) (H : Nat) (hH : w.heap.size = H)
    (h : ∀ g cap' w', RP w' B (some ⟨g, 0, none⟩) (n + 1) cap' (l ++ [y]) → w.grownBy w' (Value.slice A n cap).ownBlock → (A = some ⟨g, 0, none⟩ ∨ g = H) → Below B w w' →
      wpList Try.prog ops Q rest (a.put o.dst (.slice (some ⟨g, 0, none⟩) (n + 1) cap')) w') : wpList Try.prog ops Q (o :: rest) a w := by
  obtain ⟨i0, hi, hz0, hz1, hz2⟩ := info_parts info47
  refine wpList_append_lies w hgd s x 23 ho B 47 i0 _ 2 24 Try.underlying23 hi hz0 hz1 hz2 rfl (by decide) _ n (fl l) hs hr.2 ⟨g1, 0, none⟩ 1 c [.int .i64 y.1, .string y.2] hx rfl ?_ ?_ (by omega)
    (by unfold maxLen; omega) (by omega) hB H hH ?_
  · intro j u hu
    match j, hu with
    | 0, hu => simp at hu; subst hu; exact hy1
    | 1, hu => simp at hu; subst hu; exact hy2
    | j + 2, hu => simp at hu
  · intro u hu
    simp at hu
    rcases hu with rfl | rfl <;> rfl
  · intro g cap' w' h1 h2 h3 _
    refine h g cap' w' ⟨by simp [hr.1], by rw [fl_append]; exact h1⟩ h2 ?_ ?_
    · rcases hr.form with ⟨rfl, _⟩ | ⟨g', rfl, _, _⟩
      · rcases h3 with h3 | h3
        · cases h3
        · exact .inr h3
      · rcases h3 with h3 | h3
        · refine .inl ?_
          have : g' = g := by simpa [Value.ownBlock] using h3
          rw [this]
        · exact .inr h3
    · refine (Below.refl B w).grown h2 hB fun k hk => ?_
      exact (hr.2.lt k hk).1
theorem row_shape {w : World} {B : Nat} {v : Value} {n : Nat} {xs : List Value} (h : w.ownsRow B 47 2 v n xs) : ∃ A c, v = .slice A n c := by
  rcases h.2 with ⟨h1, h2⟩ | ⟨g, c, cur, h1, _⟩
  · subst h2; exact ⟨_, _, h1⟩
  · exact ⟨_, _, h1⟩
/-- a whole row of writes onto an empty one -/
theorem app_writes {w : World} {ops : Array Oper} {rest : List Oper} {o : Oper} {a : Act} {Q : Exit → Act → World → Prop} (hgd : o.guard = none) (s x : Operand)
    (ho : o.op = .call { callee := .builtin .append, args := #[s, x], argTypes := #[23, 23] })
    (B : Nat) (g0 c0 : Nat) (hs : a.eval s = .slice (some ⟨g0, 0, none⟩) 0 c0) (hr : RP w B (some ⟨g0, 0, none⟩) 0 c0 [])
    (A : Option Addr) (n cap : Nat) (l : List Wr) (hx : a.eval x = .slice A n cap) (ht : Pz w A n cap l) (hB : B ≤ w.heap.size)
    (h : ∀ A' c' w', RP w' B A' n c' l → Below B w w' → wpList Try.prog ops Q rest (a.put o.dst (.slice A' n c')) w') : wpList Try.prog ops Q (o :: rest) a w := by
  obtain ⟨i0, hi, hz0, hz1, hz2⟩ := info_parts info47
  have hln := ht.len
  have hm := ht.m
  cases A with
  | none =>
    obtain ⟨rfl, rfl⟩ := ht.z rfl
    have : l = [] := List.length_eq_zero_iff.1 hln
    subst this
    exact wpList_append_own_none hgd s x 23 ho B 47 i0 2 Try.underlying23 hi _ 0 [] hs hr.2 hx (h _ _ w hr (Below.refl _ _))
  | some ad =>
    have hc : ∀ j u, (fl l)[j]? = some u → w.cell? (ad.add j) = some u := by
      intro j u hu
      by_cases h0 : n = 0
      · have : l = [] := List.length_eq_zero_iff.1 (hln.trans h0)
        subst this
        simp [fl] at hu
      · obtain ⟨b, off, e, hc⟩ := ht.c (by omega)
        cases e
        rw [addr_add]
        exact fl_cells hc j u hu
    refine wpList_append_own w hgd s x 23 ho B 47 i0 _ 2 24 Try.underlying23 hi hz0 hz1 hz2 rfl (by decide) _ 0 [] hs hr.2 ad n cap (fl l) hx (by simp [fl_length, hln]) hc (fl_one l) (by unfold maxLen; omega) (by omega) hB ?_
    intro v' w' h1 h2 _
    rw [Nat.zero_add] at h1
    obtain ⟨A', c', rfl⟩ := row_shape h1
    refine h A' c' w' ⟨hln, h1⟩ ?_
    refine (Below.refl B w).grown h2 hB fun k hk => ?_
    exact (hr.2.lt k hk).1
/-- a drive that is read -/
structure Dz (w : World) (A : Option Addr) (n c : Nat) (A' : Option Addr) (m c' : Nat) (d : Dm.Dr) : Prop where
  b : Tz w A n c d.B
  p : Pz w A' m c' d.P
  l : -9223372036854775808 ≤ d.left ∧ d.left ≤ 9223372036854775807
theorem Dz.below {a b : World} {A : Option Addr} {n c : Nat} {A' : Option Addr} {m c' : Nat} {d : Dm.Dr} (h : Dz a A n c A' m c' d) (k : Below a.heap.size a b) : Dz b A n c A' m c' d := ⟨h.b.below k, h.p.below k, h.l⟩
/-- the three cells of a drive -/
abbrev dv (A : Option Addr) (n c : Nat) (A' : Option Addr) (m c' : Nat) (l : Int) : Array Value := #[.slice A n c, .slice A' m c', .int .i64 l]
theorem Tz.nil (w : World) : Tz w none 0 0 [] := ⟨⟨rfl, fun h => absurd h (by decide)⟩, fun _ => ⟨rfl, rfl⟩, by decide⟩
theorem Dz.zero (w : World) : Dz w none 0 0 none 0 0 Dm.zero := ⟨Tz.nil w, Pz.nil w, by decide, by decide⟩
theorem grow (w : World) (o : Obj) : Below w.heap.size w (w.alloc o) := (Below.refl _ _).alloc (Nat.le_refl _) _
end Dw
end Go.Proofs.Ytmolbliooaofbaa
