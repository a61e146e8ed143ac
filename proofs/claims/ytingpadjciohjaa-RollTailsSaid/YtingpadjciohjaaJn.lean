/-
  A row of texts joined; a row's end.
-/
import Derived.Test.YtingpadjciohjaaSh
import Derived.Test.YtingpadjciohjaaAl
namespace Go.Proofs.Ytingpadjciohjaa
open Go.RowKit
open _root_.Go.Proofs.Ytingpadjciohjaa.Nm
set_option linter.unusedVariables false
set_option linter.unusedSimpArgs false
theorem join_flat : ∀ L : List (List UInt8), Lib.join L [] = L.flatten
  | [] => by simp [Lib.join]
  | [a] => by simp [Lib.join]
  | a :: b :: t => by
    have := join_flat (b :: t)
    unfold Lib.join List.intercalate at *
    rw [List.intersperse_cons_cons]
    simp only [List.flatten_cons, List.nil_append] at *
    rw [this]
def glue (l : List ByteArray) : ByteArray := ⟨(l.map toL).flatten.toArray⟩
theorem glue_toL (l : List ByteArray) : toL (glue l) = (l.map toL).flatten := by simp [glue, toL]
theorem join_any (A : Option Addr) (cap : Nat) (l : List ByteArray) (w : World) (h : Ts w A l.length l) (hn : l.length ≤ 1000000000) (hc : l.length ≤ cap) (hz : (l.map toL).flatten.length ≤ 1000000000) :
    Calls Try.prog 17 #[.slice A l.length cap, .string ⟨#[]⟩] w fun e w' => e = .returned (.string (glue l)) ∧ Below w.heap.size w w' := by
  by_cases h0 : l.length = 0
  · obtain rfl : l = [] := List.length_eq_zero_iff.1 h0
    exact (Try.strings_Join_none A cap ⟨#[]⟩ w).mono fun e w' ⟨he, hw⟩ => ⟨he, by rw [hw]; exact Below.refl _ _⟩
  · obtain ⟨b, off, rfl, hcell⟩ := h.2 (by omega)
    have := Try.strings_Join b off cap l ⟨#[]⟩ w (fun j x hx => by
      have hj : j < l.length := (List.getElem?_eq_some_iff.1 hx).1
      rw [hcell j hj, nth_eq hj]
      rw [List.getElem?_eq_getElem hj] at hx
      cases hx; rfl) (World.block_lt_of_cell? _ _ (hcell 0 (by omega))) (by omega) hc (by
        rw [show (⟨#[]⟩ : ByteArray).data.toList = [] from rfl, join_flat]
        exact Nat.le_trans hz (by decide))
    rw [show (⟨#[]⟩ : ByteArray).data.toList = [] from rfl, join_flat] at this
    exact this
theorem nth_drop (l : List ByteArray) (n i : Nat) : nth (l.drop n) i = nth l (n + i) := by
  unfold nth
  rw [List.getD_eq_getElem?_getD, List.getD_eq_getElem?_getD, List.getElem?_drop]
theorem Ts.dropN {w : World} {b off : Nat} {len : Nat} {l : List ByteArray} (h : Ts w (some ⟨b, off, none⟩) len l) (n : Nat) (hn : n ≤ len) : Ts w (some ⟨b, off + n, none⟩) (len - n) (l.drop n) := by
  refine ⟨by rw [List.length_drop, h.1], fun h0 => ⟨b, off + n, rfl, fun i hi => ?_⟩⟩
  obtain ⟨b', off', e, hc⟩ := h.2 (by omega)
  cases e
  have := hc (n + i) (by omega)
  rw [nth_drop]
  rw [← this]
  congr 2; omega
end Go.Proofs.Ytingpadjciohjaa
