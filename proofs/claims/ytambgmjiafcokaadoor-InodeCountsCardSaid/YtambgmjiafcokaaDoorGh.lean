/-
  A plan in its box; what a volume is; what the two answers 'of' are.
-/
import Derived.Test.YtambgmjiafcokaaDoorGf
namespace Go.Proofs.YtambgmjiafcokaaDoor
set_option linter.unusedVariables false
set_option maxRecDepth 100000
set_option linter.unusedSimpArgs false
open Go.RowKit
namespace Dw
open _root_.Go.Proofs.YtambgmjiafcokaaDoor.Nm
/-- six cells, one value each -/
def One (cs : Array Value) : Prop := cs.size = 6 ∧ cs.all (·.oneCell') = true
theorem gc_one (b n : Nat) : One (gc b n) := by
  refine ⟨rfl, ?_⟩
  rw [Array.all_eq_true_iff_forall_mem]
  intro v hv
  simp [gc] at hv
  rcases hv with rfl | rfl | rfl | rfl | rfl | rfl <;> rfl
theorem gz_one : One gz := by
  refine ⟨rfl, ?_⟩
  rw [Array.all_eq_true_iff_forall_mem]
  intro v hv
  simp [gz] at hv
  rw [hv]; rfl
theorem ld24 {ops : Array Oper} {rest : List Oper} {o : Oper} {a : Act} {w : World} {Q : Exit → Act → World → Prop} {x : Operand} {g : Nat} {cs : Array Value}
    (hgd : o.guard = none) (ho : o.op = .load 58 x) (hx : a.eval x = .pointer (some ⟨g, 0, none⟩)) (hg : Nm.Own w g 58 cs) (h1 : One cs)
    (h : wpList Tryd.prog ops Q rest (a.put o.dst (.agg cs)) w) : wpList Tryd.prog ops Q (o :: rest) a w :=
  wpList_load_row hgd 58 x ho g hx 58 _ (0, 0) _ hg Tryd.underlying58 rfl (by rw [h1.1]; exact info24) h
theorem ld24g {ops : Array Oper} {o : Oper} {a : Act} {w : World} {K : Act → World → Prop} {Q : Exit → Act → World → Prop} {E : Prop} {x : Operand} {g : Nat} {cs : Array Value}
    (hgd : Region.wanted o (yielded ops a.tmps) = true) (ho : o.op = .load 58 x) (hx : a.eval x = .pointer (some ⟨g, 0, none⟩)) (hg : Nm.Own w g 58 cs) (h1 : One cs)
    (h : K (a.put o.dst (.agg cs)) w) : if Region.wanted o (yielded ops a.tmps) = true then Oper.wp Tryd.prog o a w K Q else E := by
  rw [if_pos hgd]
  exact wp_load_row 58 x ho g hx 58 _ (0, 0) _ hg Tryd.underlying58 rfl (by rw [h1.1]; exact info24) h
theorem sto24 {ops : Array Oper} {rest : List Oper} {o : Oper} {a : Act} {w : World} {Q : Exit → Act → World → Prop} {x y : Operand} {g : Nat} {cs ds : Array Value}
    (hgd : o.guard = none) (ho : o.op = .store 58 x y) (hx : a.eval x = .pointer (some ⟨g, 0, none⟩)) (hy : a.eval y = .agg cs) (hg : Nm.Own w g 58 ds) (h1 : One cs) (h2 : One ds)
    (h : ∀ w', Nm.Own w' g 58 cs → St g w w' → wpList Tryd.prog ops Q rest (a.put o.dst undef) w') : wpList Tryd.prog ops Q (o :: rest) a w :=
  wpList_store_row hgd 58 x y ho g _ hx hy 58 ds hg (by rw [h1.1]; exact info24) (by rw [h1.1, h2.1]) h1.2 (h _ (setRow_heap w g ds _ 58 (0, 0) hg) (St.row w g _))
theorem st24 {o : Oper} {a : Act} {w : World} {K : Act → World → Prop} {Q : Exit → Act → World → Prop} {ops : Array Oper} {E : Prop} (hgd : o.guard = none) (x y : Operand) {g : Nat} {cs ds : Array Value}
    (ho : o.op = .store 58 x y) (hx : a.eval x = .pointer (some ⟨g, 0, none⟩)) (hy : a.eval y = .agg cs) (hg : Nm.Own w g 58 ds) (h1 : One cs) (h2 : One ds)
    (h : K (a.put o.dst undef) (w.setRow g cs)) : if Region.wanted o (yielded ops a.tmps) = true then Oper.wp Tryd.prog o a w K Q else E := by
  have hw : Region.wanted o (yielded ops a.tmps) = true := by simp [Region.wanted, hgd]
  rw [if_pos hw]
  exact wp_store_row 58 x y ho g _ hx hy 58 ds hg (by rw [h1.1]; exact info24) (by rw [h1.1, h2.1]) h1.2 h
/-- what a plan's answer is, as cells and a number -/
def PC (x y : Nat) (cs : Array Value) (k : Int) : Prop := (Gm.fits x y ∧ cs = gc x y ∧ k = 0) ∨ (¬ Gm.fits x y ∧ cs = gz ∧ k ≠ 0)
theorem PC.one {x y : Nat} {cs : Array Value} {k : Int} (h : PC x y cs k) : One cs := by
  rcases h with ⟨_, rfl, _⟩ | ⟨_, rfl, _⟩
  · exact gc_one _ _
  · exact gz_one
theorem plan_cs {x y : Nat} {e : Ending} (h : PlanIs (x : Int) (y : Int) e) : ∃ cs k, e = .returned (.tuple #[.agg cs, .int .i64 k]) ∧ PC x y cs k := by
  rcases h with ⟨x', y', hx, hy, hf, rfl⟩ | ⟨hE, rfl⟩
  · obtain rfl : x = x' := by omega
    obtain rfl : y = y' := by omega
    exact ⟨_, _, rfl, .inl ⟨hf, rfl, rfl⟩⟩
  · exact ⟨_, _, rfl, .inr ⟨fun hf => hE (Gm.planE_fits hf), rfl, hE⟩⟩
/-- a volume -/
structure Vol (l : List ByteArray) (b n : Nat) : Prop where
  len : l.length = b
  blk : Blk l b
  fits : Gm.fits b n
  hd : nth l 0 = headT b n
  map : Gm.okMap (toL (nth l 2)) b n
theorem Vol.lt {l : List ByteArray} {b n : Nat} (h : Vol l b n) : 16 ≤ b ∧ b ≤ 223 ∧ 4 ≤ n ∧ n ≤ 64 := ⟨h.fits.1, h.fits.2.1, h.fits.2.2.1, h.fits.2.2.2.1⟩
/-- the two numbers in a text -/
def n4 (T : ByteArray) : Nat := Nu.getB (low (T.extract 4 6))
def n6 (T : ByteArray) : Nat := Nu.getB (low (T.extract 6 8))
theorem low_two (T : ByteArray) (a : Nat) : low (T.extract a (a + 2)) = ((toL T).drop a).take 2 := by
  unfold low
  rw [toL_extract, List.take_take]
  congr 1
  omega
theorem n4_lt (T : ByteArray) : n4 T < 65536 := by
  unfold n4
  refine Nat.lt_of_lt_of_le (Nu.getB_lt _) ?_
  rw [low_two T 4]
  exact Nat.pow_le_pow_right (by decide) (List.length_take_le _ _)
theorem n6_lt (T : ByteArray) : n6 T < 65536 := by
  unfold n6
  refine Nat.lt_of_lt_of_le (Nu.getB_lt _) ?_
  rw [low_two T 6]
  exact Nat.pow_le_pow_right (by decide) (List.length_take_le _ _)
theorem n4_head {b n : Nat} (h : b < 65536) : n4 (headT b n) = b := by
  unfold n4
  rw [low_two _ 4]
  exact Gm.headL_b h
theorem n6_head {b n : Nat} (h : n < 65536) : n6 (headT b n) = n := by
  unfold n6
  rw [low_two _ 6]
  exact Gm.headL_n h
theorem Vol.n4 {l : List ByteArray} {b n : Nat} (h : Vol l b n) : Dw.n4 (nth l 0) = b := by rw [h.hd, n4_head (by have := h.lt; omega)]
theorem Vol.n6 {l : List ByteArray} {b n : Nat} (h : Vol l b n) : Dw.n6 (nth l 0) = n := by rw [h.hd, n6_head (by have := h.lt; omega)]
theorem Vol.uniq {l : List ByteArray} {b n b' n' : Nat} (h : Vol l b n) (k : Vol l b' n') : b = b' ∧ n = n' := ⟨h.len.symm.trans k.len, h.n6.symm.trans k.n6⟩
/-- what 'of' answers -/
def OfIs (l : List ByteArray) (e : Ending) : Prop := (∃ b n, Vol l b n ∧ e = .returned (.tuple #[.agg (gc b n), .int .i64 0])) ∨ ((∀ b n, ¬ Vol l b n) ∧ e = .returned (.tuple #[.agg gz, .int .i64 3]))
end Dw
end Go.Proofs.YtambgmjiafcokaaDoor
