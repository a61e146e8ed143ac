/-
  A list of bytes that a call made, one byte of it written; the sum of two lists of coefficients, byte by byte; the empty literal in front of an append.
-/
import Derived.Test.YtdjejohppbkbcaaRc
namespace Gf
def xorTo (a b : List Nat) (k : Nat) : List Nat := (List.range a.length).map fun i => if i < k then nth a i ^^^ nth b i else nth a i
theorem xorTo_length (a b : List Nat) (k : Nat) : (xorTo a b k).length = a.length := by simp [xorTo]
theorem nth_xorTo (a b : List Nat) (k i : Nat) (h : i < a.length) : nth (xorTo a b k) i = if i < k then nth a i ^^^ nth b i else nth a i := by rw [nth_eq]; simp [xorTo, h]
theorem eq_of_nth {a b : List Nat} (h : a.length = b.length) (e : ∀ i, i < a.length → nth a i = nth b i) : a = b := by
  apply List.ext_getElem h
  intro i h1 h2
  have := e i h1
  rw [nth_eq, nth_eq, List.getElem?_eq_getElem h1, List.getElem?_eq_getElem h2] at this
  exact this
theorem nth_set (l : List Nat) (i j y : Nat) (hi : i < l.length) : nth (l.set i y) j = if i = j then y else nth l j := by
  rw [nth_eq, nth_eq, List.getElem?_set]
  by_cases h : i = j
  · rw [if_pos h, if_pos h, if_pos (by omega)]; rfl
  · rw [if_neg h, if_neg h]
theorem xorTo_zero (a b : List Nat) : xorTo a b 0 = a := eq_of_nth (xorTo_length a b 0) (fun i hi => by
  rw [xorTo_length] at hi
  rw [nth_xorTo a b 0 i hi, if_neg (by omega)])
theorem xorTo_succ (a b : List Nat) (k : Nat) (hk : k < a.length) : (xorTo a b k).set k (nth a k ^^^ nth b k) = xorTo a b (k + 1) := eq_of_nth (by simp [xorTo_length]) (fun i hi => by
  have hi' : i < a.length := by simpa [xorTo_length] using hi
  rw [nth_set _ _ _ _ (by rw [xorTo_length]; exact hk), nth_xorTo a b k i hi', nth_xorTo a b (k + 1) i hi']
  by_cases h : k = i
  · subst h; rw [if_pos rfl, if_pos (by omega)]
  · rw [if_neg h]
    by_cases h2 : i < k
    · rw [if_pos h2, if_pos (by omega)]
    · rw [if_neg h2, if_neg (by omega)])
theorem nth_padd : ∀ (a b : List Nat) (i : Nat), nth (padd a b) i = nth a i ^^^ nth b i
  | [], t, i => by
    have e : nth [] i = 0 := by rw [nth_eq]; simp
    rw [padd, e, Nat.zero_xor]
  | a :: s, [], i => by
    have e : nth [] i = 0 := by rw [nth_eq]; simp
    rw [padd, e, Nat.xor_zero]
    simp
  | a :: s, b :: t, 0 => by rw [padd, nth_eq, nth_eq, nth_eq]; simp
  | a :: s, b :: t, i + 1 => by
    have ih := nth_padd s t i
    rw [nth_eq, nth_eq, nth_eq] at ih ⊢
    simpa [padd] using ih
theorem xorTo_all (a b : List Nat) (h : a.length = b.length) : xorTo a b a.length = padd a b := eq_of_nth (by rw [xorTo_length, padd_length]; omega) (fun i hi => by
  rw [xorTo_length] at hi
  rw [nth_xorTo a b _ i hi, if_pos hi, nth_padd])
theorem ev_xorTo (a b : List Nat) (h : a.length = b.length) (x : Nat) : ev (xorTo a b a.length) x = ev a x ^^^ ev b x := by rw [xorTo_all a b h, ev_padd]
/-- are the first k all 0? -/
def noneTo (l : List Nat) : Nat → Bool
  | 0 => true
  | k + 1 => noneTo l k && nth l k == 0
theorem noneTo_iff (l : List Nat) : ∀ k, k ≤ l.length → (noneTo l k = true ↔ ∀ i, i < k → nth l i = 0)
  | 0, _ => by simp [noneTo]
  | k + 1, h => by
    rw [noneTo, Bool.and_eq_true, noneTo_iff l k (by omega)]
    constructor
    · rintro ⟨h1, h2⟩ i hi
      by_cases he : i = k
      · subst he; simpa using h2
      · exact h1 i (by omega)
    · intro h1
      exact ⟨fun i hi => h1 i (by omega), by simpa using h1 k (by omega)⟩
theorem none_all {l : List Nat} (h : noneTo l l.length = true) : ∀ c ∈ l, c = 0 := by
  intro c hc
  obtain ⟨i, hi, rfl⟩ := List.mem_iff_getElem.1 hc
  have := (noneTo_iff l _ (Nat.le_refl _)).1 h i hi
  rw [nth_eq, List.getElem?_eq_getElem hi] at this
  exact this
theorem none_not {l : List Nat} (h : noneTo l l.length = false) : ∃ c ∈ l, c ≠ 0 := by
  rcases Classical.em (∃ c ∈ l, c ≠ 0) with h1 | h1
  · exact h1
  · exfalso
    rw [Bool.eq_false_iff] at h
    refine h ((noneTo_iff l _ (Nat.le_refl _)).2 fun i hi => ?_)
    rcases Classical.em (nth l i = 0) with h2 | h2
    · exact h2
    · refine absurd ⟨l[i], List.getElem_mem hi, ?_⟩ h1
      rw [nth_eq, List.getElem?_eq_getElem hi] at h2
      exact h2
end Gf
namespace Go.Proofs.Ytdjejohppbkbcaa
open Go.RowKit
theorem RB.set {w : World} {B g n cap : Nat} {l : List Nat} (h : RB w B (some ⟨g, 0, none⟩) n cap l) (i y : Nat) (hy : y < 256) : RB (w.setCell ⟨g, i, none⟩ (bv y)) B (some ⟨g, 0, none⟩) n cap (l.set i y) := by
  refine ⟨by simpa using h.1, fun z hz => ?_, ?_⟩
  · rcases List.mem_or_eq_of_mem_set hz with hz | rfl
    · exact h.2.1 z hz
    · exact hy
  · have := h.2.2.stored i (bv y)
    rw [← List.map_set] at this
    exact this.1
theorem RB.cell {w : World} {B g n cap : Nat} {l : List Nat} (h : RB w B (some ⟨g, 0, none⟩) n cap l) (j : Nat) (hj : j < n) : w.cell? ⟨g, j, none⟩ = some (.int .u8 (Gf.nth l j : Nat)) := by
  obtain ⟨b, off, e1, hc⟩ := h.bs.2.2 (by omega)
  injection e1 with e1
  injection e1 with eb eo
  subst eb
  subst eo
  have := hc j hj
  rwa [Nat.zero_add] at this
theorem RB.frozen {w : World} {B g n cap : Nat} {l : List Nat} (h : RB w B (some ⟨g, 0, none⟩) n cap l) (j : Nat) : w.frozen? ⟨g, j, none⟩ = false := h.2.2.frozenAt j
/-- an empty literal, and a list behind it -/
theorem append_empty {w : World} {ops : Array Oper} {rest : List Oper} {o : Oper} {a : Act} {Q : Exit → Act → World → Prop} (hgd : o.guard = none) (s x : Operand)
    (ho : o.op = .call { callee := .builtin .append, args := #[s, x], argTypes := #[44, 44] })
    (B g0 : Nat) (hs : a.eval s = .slice (some ⟨g0, 0, none⟩) 0 0) (hg0 : Own w g0 5 #[]) (hB0 : B ≤ g0)
    (A' : Option Addr) (m c : Nat) (l' : List Nat) (hx : a.eval x = .slice A' m c) (hb : Bs w A' m l') (hnil : A' = none → c = 0) (hn : m ≤ 1000) (H : Nat) (hH : w.heap.size = H)
    (h : ∀ g cap' w', RB w' B (some ⟨g, 0, none⟩) m cap' l' → Below B w w' →
      wpList Try.prog ops Q rest (a.put o.dst (.slice (some ⟨g, 0, none⟩) m cap')) w') : wpList Try.prog ops Q (o :: rest) a w := by
  obtain ⟨i0, hi, hz0, hz1, hz2⟩ := info_parts info5
  have hr : w.ownsRow B 5 1 (.slice (some ⟨g0, 0, none⟩) 0 0) 0 [] := ⟨rfl, .inr ⟨g0, 0, #[], rfl, hB0, hg0, Nat.le_refl _, by omega, rfl, rfl⟩⟩
  have hlt := hg0.lt
  rcases A' with _ | ad
  · have h0 := hnil rfl
    subst h0
    have hm : m = 0 := by
      rcases Nat.eq_zero_or_pos m with h0 | h0
      · exact h0
      · obtain ⟨_, _, h1, _⟩ := hb.2.2 h0
        cases h1
    subst hm
    have hl : l' = [] := List.eq_nil_of_length_eq_zero hb.1
    subst hl
    refine wpList_append_own_none hgd s x 44 ho B 5 i0 1 Try.underlying44 hi _ 0 [] hs hr hx ?_
    exact h g0 0 w ⟨rfl, (fun _ hy => nomatch hy), hr⟩ (Below.refl _ _)
  · refine wpList_append_own_at w hgd s x 44 ho B 5 i0 (.int .u8 0) 1 1 Try.underlying44 hi hz0 hz1 hz2 rfl (by decide) _ 0 [] hs hr ad m c (l'.map bv) hx (by simp [hb.1]) ?_ ?_
      (by unfold maxLen; omega) (by omega) (by omega) ?_
    · intro j u hu
      have hj : j < m := by
        rcases Nat.lt_or_ge j m with h1 | h1
        · exact h1
        · rw [List.getElem?_eq_none (by simp [hb.1]; omega)] at hu; cases hu
      obtain ⟨g, off, e, hc⟩ := hb.2.2 (by omega)
      injection e with e
      subst e
      have ea : (⟨g, off, none⟩ : Addr).add j = ⟨g, off + j, none⟩ := by
        unfold Addr.add
        split
        · rename_i h; subst h; rfl
        · rfl
      rw [ea, hc j hj]
      rw [List.getElem?_map, List.getElem?_eq_getElem (by rw [hb.1]; exact hj)] at hu
      simp only [Option.map_some, Option.some.injEq] at hu
      subst hu
      rw [Gf.nth_eq, List.getElem?_eq_getElem (by rw [hb.1]; exact hj)]
      rfl
    · intro u hu
      obtain ⟨z, _, rfl⟩ := List.mem_map.1 hu
      rfl
    · intro v' w' h1 h2 h4 _
      have hv : ∃ g cap', v' = .slice (some ⟨g, 0, none⟩) m cap' := by
        rcases h1.2 with ⟨e, _⟩ | ⟨g, cap', _, e, _⟩
        · have := (h4.1 e).1
          cases this
        · exact ⟨g, cap', by rw [e]; simp⟩
      obtain ⟨g, cap', e⟩ := hv
      subst e
      refine h g cap' w' ⟨hb.1, hb.2.1, by simpa using h1⟩ ?_
      refine (Below.refl _ _).grown h2 (by omega) fun k hk => ?_
      exact (hr.lt k hk).1
end Go.Proofs.Ytdjejohppbkbcaa
