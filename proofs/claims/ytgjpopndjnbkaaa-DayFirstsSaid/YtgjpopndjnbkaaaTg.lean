/-
  From a day to the next one: the month, the year, and what the text of the next day tells.
-/
import Derived.Test.YtgjpopndjnbkaaaTf

namespace Go.Proofs.Ytgjpopndjnbkaaa
open Go.RowKit
theorem below_step {a w w' : World} (h : Below a.heap.size a w) (h2 : Below w.heap.size w w') : Below a.heap.size a w' := h.trans (h2.mono h.size)
theorem toL_ext (s : ByteArray) (a b : Nat) : toL (s.extract a b) = ((toL s).drop a).take (b - a) := toL_extract s a b
theorem text_day {n : Int} (h : ¬ out n) : toL ((text n).extract 8 10) = digs (dd (Cal.day n) + 1).toNat 2 := by
  rw [toL_ext, toL_text h]; rfl
theorem text_md {n : Int} (h : ¬ out n) : toL ((text n).extract 5 10) = digs (mt (Cal.day n) + 1).toNat 2 ++ 45 :: digs (dd (Cal.day n) + 1).toNat 2 := by
  rw [toL_ext, toL_text h]; rfl
theorem digs_one {x : Nat} (h : x < 100) : digs x 2 = [48, 49] ↔ x = 1 := by
  have d : ∀ x, x < 100 → (digs x 2 = [48, 49] ↔ x = 1) := by decide +kernel
  exact d x h
/-- a day of three kinds -/
theorem firsts {n : Int} (hD : D0 n) (hE : D0 (n + 1440)) (o : ¬ out (n + 1440)) :
    (Cal.month (n + 1440) = Cal.month n ∧ Cal.year (n + 1440) = Cal.year n ∧ toL ((text (n + 1440)).extract 8 10) ≠ [48, 49] ∧ toL ((text (n + 1440)).extract 5 10) ≠ [48, 49, 45, 48, 49]) ∨
    (Cal.month (n + 1440) = Cal.month n + 1 ∧ Cal.year (n + 1440) = Cal.year n ∧ toL ((text (n + 1440)).extract 8 10) = [48, 49] ∧ toL ((text (n + 1440)).extract 5 10) ≠ [48, 49, 45, 48, 49]) ∨
    (Cal.month (n + 1440) = Cal.month n + 1 ∧ Cal.year (n + 1440) = Cal.year n + 1 ∧ toL ((text (n + 1440)).extract 8 10) = [48, 49] ∧ toL ((text (n + 1440)).extract 5 10) = [48, 49, 45, 48, 49]) := by
  have e : Cal.day (n + 1440) = Cal.day n + 1 := by unfold Cal.day; omega
  have da := date_bd hD.day.1 hD.day.2
  have db := date_bd hE.day.1 hE.day.2
  rw [text_day o, text_md o, mt_eq, mt_eq, ye_eq, ye_eq, e]
  rw [e] at db
  have hN := next_day (Cal.day n)
  generalize Cal.day n + 1 = B at *
  generalize Cal.day n = A at *
  have h1 := digs_one (x := (dd B + 1).toNat) (by omega)
  have h2 := digs_one (x := (mt B + 1).toNat) (by omega)
  have h3 : digs (mt B + 1).toNat 2 ++ 45 :: digs (dd B + 1).toNat 2 = [48, 49, 45, 48, 49] ↔ ((mt B + 1).toNat = 1 ∧ (dd B + 1).toNat = 1) := by
    rw [← h1, ← h2]
    constructor
    · intro h
      have h5 := congrArg (List.take 2) h
      have h6 := congrArg (List.drop 3) h
      exact ⟨h5, h6⟩
    · rintro ⟨h5, h6⟩
      rw [h5, h6]; rfl
  rw [Ne, Ne, h3, h1]
  omega
end Go.Proofs.Ytgjpopndjnbkaaa
