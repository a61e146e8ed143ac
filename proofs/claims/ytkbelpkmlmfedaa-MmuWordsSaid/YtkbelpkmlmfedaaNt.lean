/-
  THE WALK of the reading of a row: the texts, or the error, of the plain mathematics.
-/
import Derived.Test.YtkbelpkmlmfedaaNr
namespace Go.Proofs.Ytkbelpkmlmfedaa
set_option linter.unusedVariables false
set_option maxRecDepth 100000
set_option linter.unusedSimpArgs false
open Go.RowKit
namespace Nm
/-- a text's bytes -/
def toL (s : ByteArray) : List UInt8 := s.data.toList
theorem toL_length (s : ByteArray) : (toL s).length = s.size := by simp [toL]
theorem toL_inj {a b : ByteArray} (h : toL a = toL b) : a = b := by
  cases a; cases b
  simp [toL] at h
  rw [h]
theorem toL_extract (s : ByteArray) (a b : Nat) : toL (s.extract a b) = ((toL s).drop a).take (b - a) := by
  simp [toL, ByteArray.data_extract, List.extract_eq_take_drop]
def strLen : Value → Nat | .string s => s.size | _ => 0
def TxPost (s : ByteArray) (w : World) (e : Ending) (w' : World) : Prop :=
  ∃ A c l, e = .returned (.tuple #[.slice A l.length c, .int .i64 ((Nu.texts (toL s)).2 : Nat)]) ∧ Ts w' A l.length l ∧ l.map toL = (Nu.texts (toL s)).1 ∧ Below w.heap.size w w'
def TxRel (s : ByteArray) (r : ByteArray) (acc : List ByteArray) : Prop := ∃ f, r.size < f ∧ Nu.texts (toL s) = Nu.txA f (acc.map toL) (toL r)
end Nm
end Go.Proofs.Ytkbelpkmlmfedaa
