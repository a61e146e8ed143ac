/-
  Parts as texts, and where they lie; the polynomial through the first three.
-/
import Derived.Test.YtgfnpemonpebpaaSa
namespace Go.Proofs.Ytgfnpemonpebpaa
open Go.RowKit
set_option linter.unusedVariables false
set_option linter.unusedSimpArgs false
theorem part_poly {L : List Nat} (hL : Gf.Bytes L) {k X : Nat} (hk : k < Pa.cnt L.length) (hX : X < 256) :
    Gf.atk [1, 2, 3] [Gf.nth (Pa.part L 1) k, Gf.nth (Pa.part L 2) k, Gf.nth (Pa.part L 3) k] X 3 = Gf.nth (Pa.part L X) k := by
  rw [Pa.part_nth _ _ hk, Pa.part_nth _ _ hk, Pa.part_nth _ _ hk, Pa.part_nth _ _ hk]
  obtain ⟨c0, c1, c2, k0, k1, k2, hev, e1, e2, e3⟩ := Sx.poly3 (x1 := 1) (x2 := 2) (x3 := 3) (by omega) (by omega) (by omega) (hL.at_ k) (hL.at_ (Pa.cnt L.length + k)) (hL.at_ (2 * Pa.cnt L.length + k)) (by omega) (by omega) (by omega)
  rw [hev 1 (by omega), hev 2 (by omega), hev 3 (by omega), hev X hX, Sx.through3 (by omega) (by omega) (by omega) k0 k1 k2 (by omega) (by omega) (by omega) _ hX]
theorem z41 : ZT 41 5 := fun w => by kernel_rfl
/-- a text's part lies as a text that has its bytes -/
theorem part_text {L : List Nat} (hL : Gf.Bytes L) (X : Nat) : ∃ S : ByteArray, S = bs (Pa.part L X) ∧ S.size = Pa.cnt L.length ∧ ∀ k (h : k < S.size), (S[k]).toNat = Gf.nth (Pa.part L X) k :=
  ⟨_, rfl, by rw [bs_size, Pa.part_length], fun k h => by rw [← toN_nth, toN_bs (Pa.part_bytes hL X)]⟩
theorem Pl.kept {w w' : World} {b o : Nat} {l : List (Int × ByteArray)} (h : Pl w b o l) (hb : w'.heap[b]? = w.heap[b]?) : Pl w' b o l := fun i x hx =>
  ⟨(World.cell?_of_block (w := w) (a := ⟨b, o + i * 2, none⟩) hb).trans (h i x hx).1, (World.cell?_of_block (w := w) (a := ⟨b, o + i * 2 + 1, none⟩) hb).trans (h i x hx).2⟩
theorem five_lt {w : World} {b : Nat} {L : List Nat} (h : Pl w b 0 (five L)) : b < w.heap.size := World.block_lt_of_cell? w _ (h 0 _ (five_get L (by omega))).1
theorem fil5 (F : Nat → Nat) : fil 5 F 5 = [F 0, F 1, F 2] ++ [F 3, F 4] := rfl
end Go.Proofs.Ytgfnpemonpebpaa
