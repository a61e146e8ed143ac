/-
  THE WALKS of the document's eight numbers and of its rows.
-/
import Derived.Test.YtaoaebdjinlcnaaDoorSb
import Derived.Test.YtaoaebdjinlcnaaDoorRm
set_option linter.unusedVariables false
set_option linter.unusedSimpArgs false
set_option maxRecDepth 100000
namespace Go.Proofs.YtaoaebdjinlcnaaDoor
open Go.RowKit
set_option maxRecDepth 100000 in
theorem eight_any (w : World) : Calls Tryd.prog 62 #[] w fun e w' => e = .returned (.agg (vs .u32 Bl.iv)) ∧ Below w.heap.size w w' := by
  have hb : Below w.heap.size w (w.alloc (Obj.cells (vs .u32 Bl.iv) 88)) := (Below.refl _ w).alloc (by simp) _
  have oR := Own.new w 88 (vs .u32 Bl.iv)
  go_enter Tryd.func62, Tryd.ntmps62
  go_wp2_with (refine sto_new (l := Bl.iv) t42 rfl rfl rfl (by simp) rfl rfl rfl ?_)
  exact ret_arr t42 rfl rfl oR rfl rfl ⟨rfl, hb⟩
/-- a row's text -/
def rowT (r : Nat) : ByteArray := bs ((Bl.sig.getD r []).map Bl.sign)
theorem rowT_size (r : Nat) (h : r < 10) : (rowT r).size = 16 := by
  match r, h with
  | 0, _ => rfl
  | 1, _ => rfl
  | 2, _ => rfl
  | 3, _ => rfl
  | 4, _ => rfl
  | 5, _ => rfl
  | 6, _ => rfl
  | 7, _ => rfl
  | 8, _ => rfl
  | 9, _ => rfl
theorem sign_by : ∀ r, r < 10 → ∀ i, i < 16 → (tn (rowT r)).getD i 0 = Bl.sign (Bl.sg r i) := by decide +kernel
theorem rowT_get (r i : Nat) (hr : r < 10) (hi : i < 16) (h : i < (rowT r).size) : ((rowT r)[i]).toNat = Bl.sign (Bl.sg r i) := by
  rw [tn_get]; exact sign_by r hr i hi
theorem rows_any (w : World) : Calls Tryd.prog 86 #[] w fun e w' => ∃ g, w.heap.size ≤ g ∧ e = .returned (.slice (some ⟨g, 0, none⟩) 10 10) ∧ (∀ r, r < 10 → w'.cell? ⟨g, r, none⟩ = some (.string (rowT r))) ∧ Below w.heap.size w w' := by
  go_enter Tryd.func86, Tryd.ntmps86
  go_wp2_with fail
  go_ret
  refine ⟨w.heap.size, Nat.le_refl _, rfl, fun r hr => ?_, (Below.refl _ w).alloc (Nat.le_refl _) _⟩
  refine ((Own.new _ _ _).cellv r).trans ?_
  match r, hr with
  | 0, _ => rfl
  | 1, _ => rfl
  | 2, _ => rfl
  | 3, _ => rfl
  | 4, _ => rfl
  | 5, _ => rfl
  | 6, _ => rfl
  | 7, _ => rfl
  | 8, _ => rfl
  | 9, _ => rfl
end Go.Proofs.YtaoaebdjinlcnaaDoor
