/-
  A list of bytes behind another one, by appending; the value through points where there are more points than values.
-/
import Derived.Test.YtdjejohppbkbcaaRb
import Derived.Test.YtdjejohppbkbcaaGp
import Derived.Laws.AppendOwnNone
namespace Go.Proofs.Ytdjejohppbkbcaa
open Go.RowKit
theorem RB.below {w w' : World} {B : Nat} {A : Option Addr} {n cap : Nat} {l : List Nat} (h : RB w B A n cap l) (hb : Below w.heap.size w w') : RB w' B A n cap l := by
  refine ⟨h.1, h.2.1, h.2.2.1, ?_⟩
  rcases h.2.2.2 with h1 | ⟨g, c, cur, h1, h2, h3, h4⟩
  · exact .inl h1
  · exact .inr ⟨g, c, cur, h1, h2, (hb.block g (lt_of_block h3)).trans h3, h4⟩
theorem RB.lit {w : World} {B g : Nat} {x : Nat} (h : Own w g 5 #[bv x]) (hB : B ≤ g) (hx : x < 256) : RB w B (some ⟨g, 0, none⟩) 1 1 [x] :=
  ⟨rfl, Gf.Bytes.cons hx (fun _ hy => nomatch hy), rfl, .inr ⟨g, 1, #[bv x], rfl, hB, h, by omega, by unfold maxLen; omega, rfl, rfl⟩⟩
theorem append_row {w : World} {ops : Array Oper} {rest : List Oper} {o : Oper} {a : Act} {Q : Exit → Act → World → Prop} (hgd : o.guard = none) (s x : Operand)
    (ho : o.op = .call { callee := .builtin .append, args := #[s, x], argTypes := #[44, 44] })
    (B : Nat) (A : Option Addr) (n cap : Nat) (l : List Nat) (hs : a.eval s = .slice A n cap) (hr : RB w B A n cap l)
    (A' : Option Addr) (m c : Nat) (l' : List Nat) (hx : a.eval x = .slice A' m c) (hb : Bs w A' m l') (hnil : A' = none → c = 0) (hp : 0 < n) (hn : n + m ≤ 1000) (hB : B ≤ w.heap.size) (H : Nat) (hH : w.heap.size = H)
    (h : ∀ g cap' w', RB w' B (some ⟨g, 0, none⟩) (n + m) cap' (l ++ l') → w.grownBy w' (Value.slice A n cap).ownBlock → (A = some ⟨g, 0, none⟩ ∨ g = H) → Below B w w' →
      wpList Try.prog ops Q rest (a.put o.dst (.slice (some ⟨g, 0, none⟩) (n + m) cap')) w') : wpList Try.prog ops Q (o :: rest) a w := by
  obtain ⟨i0, hi, hz0, hz1, hz2⟩ := info_parts info5
  rcases A' with _ | ad
  · have h0 := hnil rfl
    subst h0
    have hm : m = 0 := by
      rcases Nat.eq_zero_or_pos m with h0 | h0
      · exact h0
      · obtain ⟨_, _, h1, _⟩ := hb.2.2 h0
        cases h1
    subst hm
    have hl : l' = [] := List.eq_nil_of_length_eq_zero hb.1
    subst hl
    refine wpList_append_own_none hgd s x 44 ho B 5 i0 1 Try.underlying44 hi _ n (l.map bv) hs hr.2.2 hx ?_
    rcases hr.form with ⟨rfl, h0⟩ | ⟨g, rfl, _, _⟩
    · omega
    · refine h g cap w ?_ (World.grownBy.refl w _) (.inl rfl) (Below.refl _ _)
      simpa using hr
  · refine wpList_append_own_at w hgd s x 44 ho B 5 i0 (.int .u8 0) 1 1 Try.underlying44 hi hz0 hz1 hz2 rfl (by decide) _ n (l.map bv) hs hr.2.2 ad m c (l'.map bv) hx (by simp [hb.1]) ?_ ?_
      (by unfold maxLen; omega) (by omega) hB ?_
    · intro j u hu
      have hj : j < m := by
        rcases Nat.lt_or_ge j m with h1 | h1
        · exact h1
        · rw [List.getElem?_eq_none (by simp [hb.1]; omega)] at hu; cases hu
      obtain ⟨g, off, e, hc⟩ := hb.2.2 (by omega)
      injection e with e
      subst e
      have ea : (⟨g, off, none⟩ : Addr).add j = ⟨g, off + j, none⟩ := by
        unfold Addr.add
        split
        · rename_i h; subst h; rfl
        · rfl
      rw [ea, hc j hj]
      rw [List.getElem?_map, List.getElem?_eq_getElem (by rw [hb.1]; exact hj)] at hu
      simp only [Option.map_some, Option.some.injEq] at hu
      subst hu
      rw [Gf.nth_eq, List.getElem?_eq_getElem (by rw [hb.1]; exact hj)]
      rfl
    · intro u hu
      obtain ⟨z, _, rfl⟩ := List.mem_map.1 hu
      rfl
    · intro v' w' h1 h2 _ h3
      obtain ⟨g, cap', e, _, _⟩ := h1.form (by omega)
      subst e
      refine h g cap' w' ⟨by simp [hr.1, hb.1], ?_, by simpa [bv] using h1⟩ h2 ?_ ?_
      · intro z hz
        rcases List.mem_append.1 hz with hz | hz
        · exact hr.2.1 z hz
        · exact hb.2.1 z hz
      · rcases hr.form with ⟨rfl, _⟩ | ⟨g', rfl, _, _⟩
        · rcases h3 with h3 | h3
          · simp [Value.ownBlock] at h3
          · exact .inr (by simp [Value.ownBlock] at h3; omega)
        · rcases h3 with h3 | h3
          · refine .inl ?_
            have : g = g' := by simpa [Value.ownBlock] using h3
            rw [this]
          · exact .inr (by simp [Value.ownBlock] at h3; omega)
      · refine (Below.refl _ _).grown h2 hB fun k hk => ?_
        exact (hr.2.2.lt k hk).1
set_option maxHeartbeats 400000 in
theorem at_len (a a' : Option Addr) (len cap len' cap' : Nat) (X : Int) (w : World) (hlen : len ≠ len') :
    Calls Try.prog 30 #[.slice a len cap, .slice a' len' cap', .int .u8 X] w fun e w' => e = .returned (.tuple #[.int .u8 0, .bool false]) ∧ w = w' := by
  have t1 : ((len : Int) != (len' : Int)) = true := by rw [bne_iff_ne]; omega
  have HL := Lib.hid hlen
  clear hlen
  go_enter Try.func30, Try.ntmps30
  go_wp2_with fail
  go_ret2
  exact ⟨rfl, rfl⟩
end Go.Proofs.Ytdjejohppbkbcaa
