/-
  THE WALK of the document's examples.
-/
import Derived.Test.YtgjpopndjnbkaaaRt
namespace Go.Proofs.Ytgjpopndjnbkaaa
open Go.RowKit Go.Shelf
theorem of_at (n : Int) (s : ByteArray) (W : World) (hD : D0 n) (h : ¬ out n) (hs : text n = s) : Calls Try.prog 21 #[.string s] W fun e w' => e = .returned (.tuple #[.int .i64 n, .bool true]) ∧ Below W.heap.size W w' := by
  subst hs
  exact (of_any _ W (by rw [text_size h]; omega)).mono fun e w' ⟨ho, hb⟩ => ⟨ho.in hD h, hb⟩
theorem mo0 : Cal.mo 0 = 0 := (Cal.mo_unique (k := 0) (by omega) (by omega) (by decide) (by decide)).symm
theorem mo2 : Cal.mo 2 = 0 := (Cal.mo_unique (k := 0) (by omega) (by omega) (by decide) (by decide)).symm
theorem mo60 : Cal.mo 60 = 2 := (Cal.mo_unique (k := 2) (by omega) (by omega) (by decide) (by decide)).symm
theorem date0 : ye 0 = 2000 ∧ mt 0 = 0 ∧ dd 0 = 0 := by
  unfold ye mt dd
  rw [show (0 : Int) % 146097 = 0 from rfl, mo0]
  decide
theorem date2 : ye 2 = 2000 ∧ mt 2 = 0 ∧ dd 2 = 2 := by
  unfold ye mt dd
  rw [show (2 : Int) % 146097 = 2 from rfl, mo2]
  decide
theorem date60 : ye 60 = 2000 ∧ mt 60 = 2 ∧ dd 60 = 0 := by
  unfold ye mt dd
  rw [show (60 : Int) % 146097 = 60 from rfl, mo60]
  decide
theorem out_no {n d : Int} (hd : Cal.day n = d) (hy : ye d = 2000) : ¬ out n := by unfold out; rw [hd, hy]; omega
theorem text0 : text 0 = ⟨#[50, 48, 48, 48, 45, 48, 49, 45, 48, 49, 32, 48, 48, 58, 48, 48]⟩ := by
  apply toL_inj
  rw [toL_text (out_no (n := 0) (d := 0) rfl date0.1), show Cal.day 0 = 0 from rfl, date0.1, date0.2.1, date0.2.2]
  decide
theorem text2 : text 2880 = ⟨#[50, 48, 48, 48, 45, 48, 49, 45, 48, 51, 32, 48, 48, 58, 48, 48]⟩ := by
  apply toL_inj
  rw [toL_text (out_no (n := 2880) (d := 2) rfl date2.1), show Cal.day 2880 = 2 from rfl, date2.1, date2.2.1, date2.2.2]
  decide
theorem text60 : text 86400 = ⟨#[50, 48, 48, 48, 45, 48, 51, 45, 48, 49, 32, 48, 48, 58, 48, 48]⟩ := by
  apply toL_inj
  rw [toL_text (out_no (n := 86400) (d := 60) rfl date60.1), show Cal.day 86400 = 60 from rfl, date60.1, date60.2.1, date60.2.2]
  decide
set_option maxRecDepth 100000 in
theorem awake_any (W : World) : Calls Try.prog 18 #[] W fun e w' => e = .returned (.bool true) ∧ Below W.heap.size W w' := by
  have c0 : ∀ w, Calls Try.prog 19 #[.int .i64 0] w fun e w' => e = .returned (.string ⟨#[50, 48, 48, 48, 45, 48, 49, 45, 48, 49, 32, 48, 48, 58, 48, 48]⟩) ∧ Below w.heap.size w w' := fun w => by rw [← text0]; exact text_any 0 w (by unfold D0; omega)
  have k1 : ∀ w, Calls Try.prog 12 #[.int .i64 2880] w fun e w' => e = .returned (.int .i64 1) ∧ Dr w w' := fun w => week_any 2880 w (by unfold D0; omega)
  have k2 : ∀ w, Calls Try.prog 10 #[.int .i64 86400] w fun e w' => e = .returned (.int .i64 60) ∧ Dr w w' := fun w => day_any 86400 w (by unfold D0; omega)
  go_enter Try.func18, Try.ntmps18
  go_wp2_with fail
  refine (of_at 2880 _ _ (by unfold D0; omega) (out_no (d := 2) rfl date2.1) text2).mono ?_
  rintro e w1 ⟨rfl, hb⟩
  go_wp2_with fail
  refine (of_at 86400 _ _ (by unfold D0; omega) (out_no (d := 60) rfl date60.1) text60).mono ?_
  rintro e w2 ⟨rfl, hb2⟩
  replace hb := hb.trans (hb2.mono hb.size)
  clear hb2
  go_wp2_with fail
  refine (c0 _).mono ?_
  rintro e w3 ⟨rfl, hb2⟩
  replace hb := hb.trans (hb2.mono hb.size)
  clear hb2
  go_wp2_with fail
  refine (k1 _).mono ?_
  rintro e w4 ⟨rfl, hd⟩
  replace hb := below_dr hb hd
  clear hd
  go_wp2_with fail
  refine (k2 _).mono ?_
  rintro e w5 ⟨rfl, hd⟩
  replace hb := below_dr hb hd
  go_wp2_with fail
  go_ret
  exact ⟨rfl, hb⟩
end Go.Proofs.Ytgjpopndjnbkaaa
