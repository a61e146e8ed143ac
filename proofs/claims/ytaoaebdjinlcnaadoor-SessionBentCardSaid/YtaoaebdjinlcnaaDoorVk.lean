/-
  More of what the laws of sessions stand on: ends ahead of an end, a number set, another end.
-/
import Derived.Test.YtaoaebdjinlcnaaDoorVj
namespace Go.Proofs.YtaoaebdjinlcnaaDoor
set_option linter.unusedVariables false
set_option linter.unusedSimpArgs false
set_option maxRecDepth 100000
open Go.RowKit
theorem ahead_ok {c : Ch} (hc : c.Ok) (i : Nat) (h : c.n + i < 18446744073709551616) : (ahead c i).Ok := ⟨h, it_len hc.k i, it_by hc.b i⟩
def xx : ByteArray := ⟨#[120]⟩
theorem Cb.setN {w : World} {g : Nat} {c : Ch} (h : Cb w g c) (n : Nat) : Cb (w.setCell ⟨g, 1, none⟩ (.int .u64 (n : Int))) g ⟨c.m, n, c.K⟩ := by
  refine ⟨?_, h.k⟩
  have := h.o.setv 1 (.int .u64 (n : Int))
  have e : (chv c).setIfInBounds 1 (.int .u64 (n : Int)) = chv ⟨c.m, n, c.K⟩ := by simp [chv]
  rw [e] at this
  exact this
theorem Cb.other {w : World} {g : Nat} {c : Ch} (h : Cb w g c) (p : Addr) (v : Value) (hp : g ≠ p.block) : Cb (w.setCell p v) g c := ⟨h.o.other p v hp, h.k⟩
theorem wst24 {o : Oper} {a : Act} {w : World} {K : Act → World → Prop} {Q : Exit → Act → World → Prop} {x y : Operand} {g : Nat} {l l' : List Nat} (hl : l.length = 32) (hl' : l'.length = 32)
    (ho : o.op = .store 24 x y) (hx : a.eval x = .pointer (some ⟨g, 0, none⟩)) (hy : a.eval y = .agg (vs .u8 l)) (hg : Own w g 24 (vs .u8 l'))
    (h : K (a.put o.dst undef) (w.setRow g (vs .u8 l))) : o.wp Tryd.prog a w K Q :=
  wp_store_row 24 x y ho g _ hx hy 24 _ hg (by rw [vs_size, hl]; exact info24) (by rw [vs_size, vs_size, hl, hl']) (vs_one _ l) h
/-- what is answered where a message is for another end -/
theorem take_other (a c : Ch) (d : ByteArray) (hn : c.n < 18446744073709551615) (hm : c.m.size ≤ 100000) (hd : d.size ≤ 100000) (h : a.n = c.n) :
    (takeR a (frameD c d)).2.2 = 0 ∨ takeR a (frameD c d) = bad (if c.m = a.m then 5 else 7) := by
  rw [take_frame a c d (by omega) hm hd]
  by_cases e : c.m = a.m
  · rw [if_pos e, if_pos e]
    unfold take2
    rw [if_neg (by omega), if_neg (by omega)]
    unfold take3
    have hb : ¬ (boxS c.K c.m c.n d).size < 44 := by rw [boxS_size]; omega
    rcases openD_big (K := Bl.keyed (it a.K (c.n - a.n)) wS) (h := headD a.m c.n) hb with h0 | h0
    · left; simp only [if_pos h0]
    · right; simp [h0]
  · rw [if_neg e, if_neg e]
    exact .inr rfl
end Go.Proofs.YtaoaebdjinlcnaaDoor
