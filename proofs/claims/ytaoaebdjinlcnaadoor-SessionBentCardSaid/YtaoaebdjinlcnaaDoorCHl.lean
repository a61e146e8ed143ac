/-
  What is held while a law's calls make memory: its arguments' cells.
-/
import Derived.Test.YtaoaebdjinlcnaaDoorCFx
import Derived.Deep.MidRow
import Derived.Deep.RegionHeld3
import Derived.ShutString
import Derived.ChangeKeysEq
set_option linter.unusedVariables false
set_option linter.unusedSimpArgs false
set_option maxRecDepth 100000
namespace Go.Proofs.YtaoaebdjinlcnaaDoor.Ci
open Go.RowKit
/-- bytes as cells, in a list -/
def vl (l : List Nat) : List Value := l.map fun (n : Nat) => Value.int .u8 (n : Int)
theorem vl_vs (l : List Nat) : (vl l).toArray = vs .u8 l := rfl
theorem vl_length (l : List Nat) : (vl l).length = l.length := by simp [vl]
theorem rangeAt_below {w w' : World} {b o : Nat} {cs : List Value} (h : w.rangeAt b o cs) (hx : Below w.heap.size w w') : w'.rangeAt b o cs := fun j v hj => by
  have := h j v hj
  exact (hx.cell (World.block_lt_of_cell? _ _ this)).trans this
theorem held2 {W w w' : World} {b1 o1 b2 o2 : Nat} {c1 c2 : List Value} (h : w.rangeAt b1 o1 c1 ∧ w.rangeAt b2 o2 c2 ∧ Below W.heap.size W w) (hx : Below w.heap.size w w') :
    w'.rangeAt b1 o1 c1 ∧ w'.rangeAt b2 o2 c2 ∧ Below W.heap.size W w' :=
  ⟨rangeAt_below h.1 hx, rangeAt_below h.2.1 hx, h.2.2.trans (hx.mono h.2.2.size)⟩
theorem own_range {w : World} {g : Nat} {t : TypeId} {l : List Nat} (h : Own w g t (vs .u8 l)) : w.rangeAt g 0 (vl l) := fun j v hj => by
  rw [Nat.zero_add, h.cellv, ← vl_vs]
  simpa using hj
theorem eq_items (L : List Nat) (d : Nat) (w : World) : ∀ is : List Nat, (∀ i ∈ is, i < L.length) → (Op.eqItems (d + 1) 5 1 (vs .u8 L) (vs .u8 L) is).run Tryd.prog w = .ok true w
  | [], _ => by simp [Op.eqItems]
  | i :: is, h => by
    have hi := vs_get .u8 (h i (by simp))
    have hp := run_part_plain (P := Tryd.prog) (w := w) (e := 5) (xs := vs .u8 L) (off := i * 1) (by kernel_rfl) (by rw [Nat.mul_one]; exact hi)
    have he : (Op.equalIn (d + 1) 5 (.int .u8 (Ch.nth L i : Nat)) (.int .u8 (Ch.nth L i : Nat))).run Tryd.prog w = .ok true w := by
      simp [Op.equalIn, run_underlying Tryd.underlying5]
    simp only [Op.eqItems, Sem.run_bind, hp, Result.andThen_ok, he]
    simpa using eq_items L d w is fun j hj => h j (by simp [hj])
/-- an array is its own like -/
theorem eq_same (L : List Nat) (hl : L.length = 64) (w : World) : (Op.equalIn 10000 90 (.agg (vs .u8 L)) (.agg (vs .u8 L))).run Tryd.prog w = .ok true w := by
  obtain ⟨i, hi, _⟩ := Option.map_eq_some_iff.1 info5b

  rw [show (10000 : Nat) = 9999 + 1 from rfl, run_equalIn_array (w := w) 9999 (vs .u8 L) (vs .u8 L) Tryd.underlying90 hi, show Tryd.prog.cellsOf 5 = 1 from by kernel_rfl]
  exact eq_items L 9998 w _ fun j hj => by rw [hl]; exact List.mem_range.1 hj
theorem exec_same (L : List Nat) (hl : L.length = 64) (w : World) (ρ : Operand → Value) (x y : Operand) (hx : ρ x = .agg (vs .u8 L)) (hy : ρ y = .agg (vs .u8 L)) (o : Oper) (ho : o.op = .binOp .eql 90 x y 90) : (execOp ρ o).run Tryd.prog w = .ok (.value (.bool true)) w := by
  have hq := eq_same L hl
  have hg := run_eqGuard_agg (P := Tryd.prog) (w := w) .eql 90 x y (vs .u8 L) (vs .u8 L) (by kernel_rfl)
  have hb : (binOp .eql 90 (.agg (vs .u8 L)) (.agg (vs .u8 L))).run Tryd.prog w = .ok (.bool true) w := by
    show (do pure (Value.bool (← Op.equal 90 (.agg (vs .u8 L)) (.agg (vs .u8 L)))) : Sem Value).run Tryd.prog w = _
    simp only [Sem.run_bind]
    rw [show (Op.equal 90 (Value.agg (vs .u8 L)) (Value.agg (vs .u8 L))) = Op.equalIn 10000 90 (.agg (vs .u8 L)) (.agg (vs .u8 L)) from rfl, hq w]
    simp
  unfold execOp
  simp only [ho, hx, hy, Sem.run_bind, hg, hb, Result.andThen_ok, Sem.run_pure]
theorem nat_u32 {n : Int} (h : (Lit.int .u32 n).wf = true) : ∃ m : Nat, n = (m : Int) ∧ m < 4294967296 := by
  simp [Lit.wf, IntKind.min, IntKind.max, IntKind.signed, IntKind.bits] at h
  obtain ⟨m, rfl⟩ := Int.eq_ofNat_of_zero_le h.1
  exact ⟨m, rfl, by omega⟩
theorem nat_u8 {n : Int} (h : (Lit.int .u8 n).wf = true) : ∃ m : Nat, n = (m : Int) ∧ m < 256 := by
  simp [Lit.wf, IntKind.min, IntKind.max, IntKind.signed, IntKind.bits] at h
  obtain ⟨m, rfl⟩ := Int.eq_ofNat_of_zero_le h.1
  exact ⟨m, rfl, by omega⟩
theorem u32_ok {W : World} {base : Nat} {v : Value} (h : Cell.okWide Tryd.prog W .any base 37 v) : ∃ m : Nat, v = .int .u32 (m : Int) ∧ m < 4294967296 := by
  unfold Cell.okWide at h
  rw [Tryd.underlying37] at h
  cases v <;> simp only [Cell.ok, Tryd.underlying37] at h
  obtain ⟨rfl, h⟩ := h
  rename_i n
  simp [IntKind.has, IntKind.min, IntKind.max, IntKind.signed, IntKind.bits] at h
  obtain ⟨m, rfl⟩ := Int.eq_ofNat_of_zero_le h.1
  exact ⟨m, rfl, by omega⟩
/-- the cells of a key, a nonce and a number, one behind the other -/
def caseL (K N : List Nat) (n : Nat) : List Value := vl K ++ vl N ++ [.int .u32 (n : Int)]
theorem case_ranges {w : World} {g : Nat} {K N : List Nat} {n : Nat} {t : TypeId} (lK : K.length = 32) (lN : N.length = 12) (h : Own w g t (caseL K N n).toArray) :
    w.rangeAt g 0 (vl K) ∧ w.rangeAt g 32 (vl N) ∧ w.cell? ⟨g, 44, none⟩ = some (.int .u32 (n : Int)) := by
  have lvK : (vl K).length = 32 := by rw [vl_length, lK]
  have lvN : (vl N).length = 12 := by rw [vl_length, lN]
  refine ⟨fun j v hj => ?_, fun j v hj => ?_, ?_⟩
  · have hlt : j < (vl K).length := by
      rcases Nat.lt_or_ge j (vl K).length with h | h
      · exact h
      · rw [List.getElem?_eq_none h] at hj; cases hj
    rw [Nat.zero_add, h.cellv, List.getElem?_toArray]
    unfold caseL
    rw [List.append_assoc, List.getElem?_append_left hlt]; exact hj
  · have hlt : j < (vl N).length := by
      rcases Nat.lt_or_ge j (vl N).length with h | h
      · exact h
      · rw [List.getElem?_eq_none h] at hj; cases hj
    rw [h.cellv, List.getElem?_toArray]
    unfold caseL
    rw [List.getElem?_append_left (by rw [List.length_append]; omega), List.getElem?_append_right (by omega), lvK, show 32 + j - 32 = j from by omega]; exact hj
  · rw [h.cellv, List.getElem?_toArray]
    unfold caseL
    rw [List.getElem?_append_right (by rw [List.length_append]; omega), List.length_append, lvK, lvN]; rfl
end Go.Proofs.YtaoaebdjinlcnaaDoor.Ci
