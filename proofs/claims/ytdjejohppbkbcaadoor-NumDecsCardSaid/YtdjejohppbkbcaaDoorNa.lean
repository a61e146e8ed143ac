/-
  THE WALK of the chapter's examples of numbers and rows: they come out.
-/
import Derived.Test.YtdjejohppbkbcaaDoorNx
import Derived.Test.YtdjejohppbkbcaaDoorNp
namespace Go.Proofs.YtdjejohppbkbcaaDoor
open Go.RowKit
namespace Nm
theorem map_toL_inj {l l' : List ByteArray} (h : l.map toL = l'.map toL) : l = l' := by
  have hl : l.length = l'.length := by have := congrArg List.length h; simpa using this
  apply List.ext_getElem hl
  intro i h1 h2
  have e : (l.map toL)[i]'(by simpa using h1) = (l'.map toL)[i]'(by simpa using h2) := by simp only [h]
  rw [List.getElem_map, List.getElem_map] at e
  exact toL_inj e
theorem ex1 : Nu.texts [2, 97, 98, 0] = ([[97, 98], []], 0) := by decide +kernel
theorem ex2 : Nu.texts [128, 0] = ([], 3) := by decide +kernel
theorem ex4 : Nu.putB 258 3 = [2, 1, 0] := by decide +kernel
theorem ex3 : Nu.rowB [[97, 98], []] = [2, 97, 98, 0] := by
  simp [Nu.rowB, Nu.lenB_small]
theorem ts_two {w : World} {g : Nat} {x y : ByteArray} (h : Own w g 9 #[.string x, .string y]) : Ts w (some ⟨g, 0, none⟩) 2 [x, y] := by
  refine ⟨rfl, fun _ => ⟨g, 0, rfl, fun i hi => ?_⟩⟩
  rw [Nat.zero_add, h.cell]
  match i, hi with
  | 0, _ => rfl
  | 1, _ => rfl
set_option maxRecDepth 100000 in
set_option maxHeartbeats 1000000 in
theorem alive_any (w : World) : Calls Tryd.prog 4 #[] w fun e w' => e = .returned (.bool true) ∧ Below w.heap.size w w' := by
  have c1 := texts_any ⟨#[2, 97, 98, 0]⟩
  have c2 := texts_any ⟨#[128, 0]⟩
  have p1 : ∀ w e w', TxPost ⟨#[2, 97, 98, 0]⟩ w e w' → ∃ A c, e = .returned (.tuple #[.slice A 2 c, .int .i64 0]) ∧ Ts w' A 2 [⟨#[97, 98]⟩, ⟨#[]⟩] ∧ Below w.heap.size w w' := by
    rintro w e w' ⟨A, c, l, h1, h2, h3, h4⟩
    have e1 : Nu.texts (toL ⟨#[2, 97, 98, 0]⟩) = ([[97, 98], []], 0) := ex1
    rw [e1] at h1 h3
    have hl : l = [⟨#[97, 98]⟩, ⟨#[]⟩] := map_toL_inj h3
    subst hl
    exact ⟨A, c, h1, h2, h4⟩
  have p2 : ∀ w e w', TxPost ⟨#[128, 0]⟩ w e w' → ∃ A c n, e = .returned (.tuple #[.slice A n c, .int .i64 3]) ∧ Below w.heap.size w w' := by
    rintro w e w' ⟨A, c, l, h1, h2, h3, h4⟩
    have e1 : Nu.texts (toL ⟨#[128, 0]⟩) = ([], 3) := ex2
    rw [e1] at h1 h3
    exact ⟨A, c, l.length, h1, h4⟩
  have C1 := Lib.hid c1
  have C2 := Lib.hid c2
  have P1 := Lib.hid p1
  have P2 := Lib.hid p2
  clear c1 c2 p1 p2
  have q4 : ∀ w, Calls Tryd.prog 11 #[.int .u64 258, .int .i64 3] w fun e w' => e = .returned (.string ⟨#[2, 1, 0]⟩) ∧ Below w.heap.size w w' := by
    intro w
    have h := put_any 258 3 3 w (by omega) (by decide)
    rw [ex4] at h
    exact h
  have Q4 := Lib.hid q4
  clear q4
  go_enter Tryd.func4, Tryd.ntmps4
  go_wp2_with fail
  refine (C1.out _ (by decide)).mono ?_
  rintro e w1 h
  obtain ⟨A, c, rfl, t1, b1⟩ := P1.out _ _ _ h
  clear h
  go_wp2_with fail
  refine (C2.out _ (by decide)).mono ?_
  rintro e w2 h
  obtain ⟨A2, c2, n2, rfl, b2⟩ := P2.out _ _ _ h
  clear h
  have t2 := t1.below b2
  go_wp2_with fail
  have own2 : Own (w2.alloc (.cells #[.string ⟨#[97, 98]⟩, .string ⟨#[]⟩] 9)) w2.heap.size 9 #[.string ⟨#[97, 98]⟩, .string ⟨#[]⟩] := Own.new _ _ _
  refine (row_any _ 2 2 [⟨#[97, 98]⟩, ⟨#[]⟩] _ (ts_two own2) (by decide) (by decide)).mono ?_
  rw [show [(⟨#[97, 98]⟩ : ByteArray), ⟨#[]⟩].map toL = [[97, 98], []] from rfl, ex3]
  rintro e w3 ⟨rfl, b3⟩
  have t3 := (t2.below ((Below.refl _ _).alloc (Nat.le_refl _) _)).below b3
  obtain ⟨b, off, rfl, hc⟩ := t3.2 (by omega)
  have k0 : w3.cell? ⟨b, off, none⟩ = some (.string ⟨#[97, 98]⟩) := hc 0 (by omega)
  clear hc own2
  go_wp2_with (go_at_call 11; refine (Q4.out _).mono ?_; rintro e w4 ⟨rfl, b4⟩)
  go_ret
  have s1 := b1.size
  have s2 := b2.size
  have s3 := b3.size
  rw [World.size_alloc] at s3
  have z2 := b1.trans (b2.mono s1)
  have z3 := (z2.alloc (by omega) (.cells #[.string ⟨#[97, 98]⟩, .string ⟨#[]⟩] 9)).trans (b3.mono (by rw [World.size_alloc]; omega))
  exact ⟨rfl, z3.trans (b4.mono (by omega))⟩
end Nm
end Go.Proofs.YtdjejohppbkbcaaDoor
