/-
  THE WALKS of the map's turned text, and of the question whether the map fits a plan.
-/
import Derived.Test.YtambgmjiafcokaaDoorGc
namespace Go.Proofs.YtambgmjiafcokaaDoor
set_option linter.unusedVariables false
set_option maxRecDepth 100000
set_option linter.unusedSimpArgs false
open Go.RowKit
namespace Dw
open _root_.Go.Proofs.YtambgmjiafcokaaDoor.Nm
theorem turn_cat (T : ByteArray) (i : Nat) (h : i / 8 < T.size) (y : UInt8) (hy : (toL T).getD (i / 8) 0 = y) : T.extract 0 (i / 8) ++ (⟨#[Gm.flip y (i % 8)]⟩ : ByteArray) ++ T.extract (i / 8 + 1) T.size = turnT T i := by
  apply toL_inj
  rw [toL_turn, toL_app', toL_app', toL_extract, toL_extract]
  unfold Gm.turn
  rw [hy]
  have hl : i / 8 < (toL T).length := by rw [toL_length]; exact h
  rw [List.set_eq_take_append_cons_drop, if_pos hl, List.drop_zero, Nat.sub_zero, List.take_of_length_le (l := (toL T).drop _) (by rw [List.length_drop, toL_length]; omega)]
  simp [toL]
theorem below_alloc {B : Nat} {w w' : World} (h : Below B w w') (hB : w.heap.size = B) (o : Obj) : Below B w (w'.alloc o) := Below.alloc h (by have := h.size; omega) o
end Dw
end Go.Proofs.YtambgmjiafcokaaDoor
