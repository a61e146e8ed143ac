/-
  Laws for the walk: parts behind parts, in a region that draws; three parts with whatever behind them.
-/
import Derived.Test.YtgfnpemonpebpaaRj
import Derived.ArgAppend
import Derived.Laws.AppendOwnNone
namespace Go.Proofs.Ytgfnpemonpebpaa
open Go.RowKit
set_option linter.unusedVariables false
set_option linter.unusedSimpArgs false
theorem fl_one (l : List (Int × ByteArray)) : ∀ u ∈ fl l, u.oneCell' = true := fun u hu => by
  simp only [fl, List.mem_flatMap] at hu
  obtain ⟨x, _, hx⟩ := hu
  simp at hx
  rcases hx with rfl | rfl <;> rfl
theorem fl_cells {w : World} {b o : Nat} {l : List (Int × ByteArray)} (h : Pl w b o l) : ∀ j u, (fl l)[j]? = some u → w.cell? ⟨b, o + j, none⟩ = some u := fun j u hj => by
  have hjl : j < l.length * 2 := by
    have := (List.getElem?_eq_some_iff.1 hj).1
    rw [fl_length] at this; exact this
  obtain ⟨x, hx⟩ : ∃ x, l[j / 2]? = some x := ⟨l[j / 2]'(by omega), List.getElem?_eq_getElem _⟩
  obtain ⟨h1, h2⟩ := h (j / 2) x hx
  obtain ⟨f1, f2⟩ := fl_get l (j / 2) x hx
  rcases Nat.mod_two_eq_zero_or_one j with hm | hm
  · have e : j / 2 * 2 = j := by omega
    rw [e] at h1 f1
    rw [f1] at hj
    rw [← Option.some.inj hj]; exact h1
  · have e : j / 2 * 2 + 1 = j := by omega
    rw [e] at f2
    rw [show o + j / 2 * 2 + 1 = o + j from by omega] at h2
    rw [f2] at hj
    rw [← Option.some.inj hj]; exact h2
theorem addr_add (b o j : Nat) : (⟨b, o, none⟩ : Addr).add j = ⟨b, o + j, none⟩ := by by_cases h : j = 0 <;> simp [Addr.add, h]
/-- parts behind parts, at one operation -/
theorem wp_append_parts {o : Oper} {a : Act} {w : World} {K : Act → World → Prop} {Q : Exit → Act → World → Prop} (s x : Operand)
    (ho : o.op = .call { callee := .builtin .append, args := #[s, x], argTypes := #[24, 24] })
    (B gA n cap : Nat) (l : List (Int × ByteArray)) (hs : a.eval s = .slice (some ⟨gA, 0, none⟩) n cap) (hr : RP w B (some ⟨gA, 0, none⟩) n cap l)
    (gb off m c : Nat) (l' : List (Int × ByteArray)) (hx : a.eval x = .slice (some ⟨gb, off, none⟩) m c) (hp : Pl w gb off l') (hl' : l'.length = m) (hn : n + m ≤ 1000) (hB : B ≤ w.heap.size)
    (h : ∀ g cap' w', RP w' B (some ⟨g, 0, none⟩) (n + m) cap' (l ++ l') → w.grownBy w' (some gA) → (g = gA ∨ g = w.heap.size) →
      K (a.put o.dst (.slice (some ⟨g, 0, none⟩) (n + m) cap')) w') : Oper.wp Try.prog o a w K Q := by
  obtain ⟨i0, hi, hz0, hz1, hz2⟩ := info_parts info29
  obtain ⟨v', w', hrun, h2, h3, h4, h5⟩ := run_append_own_at (P := Try.prog) w B 24 o.type 29 i0 _ 2 24 Try.underlying24 hi hz0 hz1 hz2 rfl (by decide) (.slice (some ⟨gA, 0, none⟩) n cap) n (fl l) hr.2 ⟨gb, off, none⟩ m c (fl l') (by rw [fl_length, hl'])
    (fun j u hj => by rw [addr_add]; exact fl_cells hp j u hj) (fl_one l') (by unfold maxLen; omega) (by omega) hB
  have hv : ∃ g cap', v' = .slice (some ⟨g, 0, none⟩) (n + m) cap' := by
    rcases h2.2 with ⟨e, _⟩ | ⟨g, c', cur, e, _⟩
    · exact absurd (h4.1 e).1 (by simp)
    · exact ⟨g, c', e⟩
  obtain ⟨g, cap', rfl⟩ := hv
  unfold Oper.wp execOp
  simp only [ho, resolve, invoke, builtin, Sem.run_bind, Sem.run_pure, Result.andThen_ok, List.map_toArray, List.map_cons, List.map_nil, hs, hx, hrun]
  refine h g cap' w' ⟨by simp [hr.1, hl'], by rw [fl_append]; exact h2⟩ h3 ?_
  simpa [Value.ownBlock] using h5
/-- one part more, and no block but the row's own is another one -/
theorem app_part2 {w : World} {ops : Array Oper} {rest : List Oper} {o : Oper} {a : Act} {Q : Exit → Act → World → Prop} (hgd : o.guard = none) (s x : Operand)
    (ho : o.op = .call { callee := .builtin .append, args := #[s, x], argTypes := #[24, 24] })
    (B : Nat) (A : Option Addr) (n cap : Nat) (l : List (Int × ByteArray)) (hs : a.eval s = .slice A n cap) (hr : RP w B A n cap l)
    (g1 c : Nat) (y : Int × ByteArray) (hx : a.eval x = .slice (some ⟨g1, 0, none⟩) 1 c) (hy1 : w.cell? ⟨g1, 0, none⟩ = some (.int .i64 y.1)) (hy2 : w.cell? ⟨g1, 1, none⟩ = some (.string y.2)) (hn : n ≤ 1000) (hB : B ≤ w.heap.size) (H : Nat) (hH : w.heap.size = H)
    (h : ∀ g cap' w', RP w' B (some ⟨g, 0, none⟩) (n + 1) cap' (l ++ [y]) → w.grownBy w' (Value.slice A n cap).ownBlock → (A = some ⟨g, 0, none⟩ ∨ g = H) → Below B w w' →
      wpList Try.prog ops Q rest (a.put o.dst (.slice (some ⟨g, 0, none⟩) (n + 1) cap')) w') : wpList Try.prog ops Q (o :: rest) a w := by
  obtain ⟨i0, hi, hz0, hz1, hz2⟩ := info_parts info29
  refine wpList_append_lies w hgd s x 24 ho B 29 i0 _ 2 24 Try.underlying24 hi hz0 hz1 hz2 rfl (by decide) _ n (fl l) hs hr.2 ⟨g1, 0, none⟩ 1 c [.int .i64 y.1, .string y.2] hx rfl ?_ ?_ (by omega)
    (by unfold maxLen; omega) (by omega) hB H hH ?_
  · intro j u hu
    match j, hu with
    | 0, hu => simp at hu; subst hu; exact hy1
    | 1, hu => simp at hu; subst hu; exact hy2
    | j + 2, hu => simp at hu
  · intro u hu
    simp at hu
    rcases hu with rfl | rfl <;> rfl
  · intro g cap' w' h1 h2 h3 _
    refine h g cap' w' ⟨by simp [hr.1], by rw [fl_append]; exact h1⟩ h2 ?_ ?_
    · rcases hr.form with ⟨rfl, _⟩ | ⟨g', rfl, _, _⟩
      · rcases h3 with h3 | h3
        · cases h3
        · exact .inr h3
      · rcases h3 with h3 | h3
        · refine .inl ?_
          have : g' = g := by simpa [Value.ownBlock] using h3
          rw [this]
        · exact .inr h3
    · refine (Below.refl B w).grown h2 hB fun k hk => ?_
      exact (hr.2.lt k hk).1
/-- parts, and those behind them that came in: the first ones still lie where they lay -/
theorem app_behind {w : World} {ops : Array Oper} {rest : List Oper} {o : Oper} {a : Act} {Q : Exit → Act → World → Prop} (hgd : o.guard = none) (s x : Operand)
    (ho : o.op = .call { callee := .builtin .append, args := #[s, x], argTypes := #[24, 24] })
    (B gA n cap : Nat) (l : List (Int × ByteArray)) (hs : a.eval s = .slice (some ⟨gA, 0, none⟩) n cap) (hr : RP w B (some ⟨gA, 0, none⟩) n cap l)
    (A' : Option Addr) (m c : Nat) (l' : List (Int × ByteArray)) (hx : a.eval x = .slice A' m c) (hp : Ps w A' l') (hl' : l'.length = m) (hnil : A' = none → c = 0) (hn : n + m ≤ 1000) (hB : B ≤ w.heap.size)
    (h : ∀ g cap' w', RP w' B (some ⟨g, 0, none⟩) (n + m) cap' (l ++ l') → Pl w' gA 0 l → Below B w w' →
      wpList Try.prog ops Q rest (a.put o.dst (.slice (some ⟨g, 0, none⟩) (n + m) cap')) w') : wpList Try.prog ops Q (o :: rest) a w := by
  obtain ⟨i0, hi, hz0, hz1, hz2⟩ := info_parts info29
  rcases A' with _ | ad
  · have hm : m = 0 := by
      rcases Nat.eq_zero_or_pos m with h0 | h0
      · exact h0
      · obtain ⟨_, _, h1, _⟩ := hp (by omega)
        cases h1
    have hc := hnil rfl
    subst hm hc
    have : l' = [] := List.length_eq_zero_iff.1 hl'
    subst this
    refine wpList_append_own_none hgd s x 24 ho B 29 i0 2 Try.underlying24 hi _ n (fl l) hs hr.2 hx ?_
    exact h gA cap w (by simpa using hr) hr.pl (Below.refl _ _)
  · have hcells : ∀ j u, (fl l')[j]? = some u → w.cell? (ad.add j) = some u := fun j u hj => by
      have hjl : j < l'.length * 2 := by
        have := (List.getElem?_eq_some_iff.1 hj).1
        rw [fl_length] at this; exact this
      obtain ⟨b, off, e, hpl⟩ := hp (by omega)
      injection e with e
      subst e
      rw [addr_add]
      exact fl_cells hpl j u hj
    obtain ⟨v', w', hrun, h2, h3, h4, h5⟩ := run_append_own_at (P := Try.prog) w B 24 o.type 29 i0 _ 2 24 Try.underlying24 hi hz0 hz1 hz2 rfl (by decide) (.slice (some ⟨gA, 0, none⟩) n cap) n (fl l) hr.2 ad m c (fl l') (by rw [fl_length, hl'])
      hcells (fl_one l') (by unfold maxLen; omega) (by omega) hB
    have hv : ∃ g cap', v' = .slice (some ⟨g, 0, none⟩) (n + m) cap' := by
      rcases h2.2 with ⟨e, _⟩ | ⟨g, c', cur, e, _⟩
      · exact absurd (h4.1 e).1 (by simp)
      · exact ⟨g, c', e⟩
    obtain ⟨g, cap', rfl⟩ := hv
    have hb : Below B w w' := (Below.refl B w).grown h3 hB fun k hk => (hr.2.lt k hk).1
    have hRP : RP w' B (some ⟨g, 0, none⟩) (n + m) cap' (l ++ l') := ⟨by simp [hr.1, hl'], by rw [fl_append]; exact h2⟩
    have hPl : Pl w' gA 0 l := by
      by_cases hcap : cap < n + m
      · obtain ⟨v2, w2, hrun2, _, r2⟩ := run_append_arg_grows (P := Try.prog) w 24 o.type 29 i0 _ 2 24 Try.underlying24 hi hz0 hz1 hz2 rfl (by decide) ⟨gA, 0, none⟩ n cap (fl l) (by rw [fl_length, hr.1]) (fun j u hj => by rw [addr_add]; exact fl_cells hr.pl j u hj) ad m c (fl l') (by rw [fl_length, hl']) hcells hcap (by unfold maxLen; omega) (by omega)
        rw [hrun] at hrun2
        injection hrun2 with _ e2
        subst e2
        exact hr.pl.kept (r2.block gA (hr.2.lt gA rfl).2 (by simp))
      · obtain ⟨cur, hcur, hcs⟩ : ∃ cur, w.heap[gA]? = some (.cells cur 29 (0, 0)) ∧ cur.size = cap * 2 := by
          rcases hr.2.2 with ⟨e, _⟩ | ⟨g', c', cur, e, _, e3, _, _, e6, _⟩
          · simp at e
          · have : gA = g' ∧ cap = c' := by simpa using e
            obtain ⟨rfl, rfl⟩ := this
            exact ⟨cur, e3, e6⟩
        have hrun2 := run_append_room_cells (P := Try.prog) w 24 o.type 29 i0 Try.underlying24 hi gA 0 n cap ad m c (fl l') (by rw [fl_length, hl', hz1]) hcells (fl_one l') (by omega)
          (fun j hj => by
            rw [fl_length, hl'] at hj
            rw [hz1]
            simp only [World.cell?, hcur]
            simp
            omega)
          (fun j hj => by simp only [World.frozen?, hcur]; simp)
        rw [hrun] at hrun2
        injection hrun2 with e1 _
        have : g = gA := by
          injection e1 with e1 _ _
          simpa using e1
        subst this
        intro i y hy
        exact hRP.pl i y (by rw [List.getElem?_append_left (List.getElem?_eq_some_iff.1 hy).1]; exact hy)
    refine wpList_plain hgd fun K hK => ?_
    unfold Oper.wp execOp
    simp only [ho, resolve, invoke, builtin, Sem.run_bind, Sem.run_pure, Result.andThen_ok, List.map_toArray, List.map_cons, List.map_nil, hs, hx, hrun]
    exact hK _ _ (h g cap' w' hRP hPl hb)
end Go.Proofs.Ytgfnpemonpebpaa
