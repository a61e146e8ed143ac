/-
  How the arguments of the inode laws are opened: rows of texts, inodes by value, rows of numbers.
-/
import Derived.Test.YtambgmjiafcokaaDoorIz
import Derived.Test.YtambgmjiafcokaaDoorOk
import Derived.ProofKit
import Derived.OpenShut
import Derived.ChangeSlices
import Derived.SliceStrings
import Derived.WideShapes
import Derived.Deep.Slices
import Derived.Deep.Fields
import Derived.ChangeSame
namespace Go.Proofs.YtambgmjiafcokaaDoor
set_option linter.unusedVariables false
set_option maxRecDepth 100000
set_option linter.unusedSimpArgs false
open Go.ChangeShapes Go.WideShapes Go.ChangeAt Go.RowKit Go.Deep
namespace Dw
open _root_.Go.Proofs.YtambgmjiafcokaaDoor.Nm
theorem cells9 : Tryd.prog.cellsOf 9 = 1 := by kernel_rfl
theorem cells3 : Tryd.prog.cellsOf 3 = 1 := by kernel_rfl
/-- a row of texts as it was handed -/
structure Sy (w : World) (A : Option Addr) (n c : Nat) (l : List ByteArray) : Prop where
  z : Tz w A n c l
  s : Lit l n
theorem Sy.below {w w' : World} {A : Option Addr} {n c : Nat} {l : List ByteArray} (h : Sy w A n c l) (hx : Below w.heap.size w w') : Sy w' A n c l := ⟨h.z.below hx, h.s⟩
theorem texts_of {H : Type} {enc : TypeId × Value → H} {W : World} {fuel : Nat} {c : Value} {y : DataW H × List MemPlace} (h : DataW.trod enc Tryd.prog W 0 (fun _ => true) true fuel 22 [c] = some y) :
    ∃ A n cap l, c = .slice A n cap ∧ Sy W A n cap l := by
  rcases open_strings Tryd.underlying22 Tryd.underlying9 cells9 h with ⟨hcs, _⟩ | ⟨x, len, cap, ss, hcs, _, hl, hm, hz, _, hcell, hsz⟩
  · simp at hcs
    subst hcs
    exact ⟨none, 0, 0, [], rfl, Tz.nil W, fun k hk => absurd hk (Nat.not_lt_zero _)⟩
  · simp at hcs
    subst hcs
    simp only [if_true] at hz
    refine ⟨some x, len, cap, ss.take len, rfl, ⟨⟨by simp; omega, fun h0 => ?_⟩, (fun e => by cases e), by unfold maxLen at hm; omega⟩, fun k hk => ?_⟩
    · obtain ⟨b, off, spot⟩ := x
      have hspot : spot = none := by simpa [Addr.add] using World.cell?_spot (hcell 0 (by omega))
      subst hspot
      refine ⟨b, off, rfl, fun i hi => ?_⟩
      have e := hcell i (by omega)
      rw [addr_add] at e
      rw [e]
      show _ = some (Value.string (nth _ _))
      unfold nth
      rw [List.getD_eq_getElem?_getD, List.getD_eq_getElem?_getD, List.getElem?_take, if_pos hi]
      rfl
    · unfold nth
      rw [List.getD_eq_getElem?_getD, List.getElem?_take, if_pos hk, List.getElem?_eq_getElem (by omega)]
      have := hsz _ (List.getElem_mem (show k < ss.length by omega))
      unfold maxLen at this
      exact this
theorem okStrs {H : Type} {enc : TypeId × Value → H} {W : World} {base : Nat} {v : Value} {d : DataW H} {p : List MemPlace} (hv : Value.okWide Tryd.prog W .any base 22 v) (h : DataW.Trod enc Tryd.prog W 0 (fun _ => true) true 22 v d p) :
    ∃ (A : Option Addr) (n c : Nat) (l : List ByteArray), v = .slice A n c ∧ Sy W A n c l := by
  obtain ⟨A, n, c, rfl⟩ := okWide_slice Tryd.underlying22 hv
  obtain ⟨fuel, hf⟩ := h
  simp only [Value.cells] at hf
  obtain ⟨A1, n1, c1, l, e, hz⟩ := texts_of hf
  cases e
  exact ⟨A, n, c, l, rfl, hz⟩
theorem i64_ok {W : World} {base : Nat} {v : Value} (h : Cell.okWide Tryd.prog W .any base 3 v) : ∃ m : Int, v = .int .i64 m := by
  unfold Cell.okWide at h
  rw [Tryd.underlying3] at h
  cases v <;> simp only [Cell.ok, Tryd.underlying3] at h
  obtain ⟨rfl, h⟩ := h
  exact ⟨_, rfl⟩
theorem okIno {W : World} {base : Nat} {v : Value} (h : Value.okWide Tryd.prog W .any base 27 v) : ∃ X : Nat → Int, v = .agg (ic X) ∧ True := by
  simp only [Value.okWide, Tryd.underlying27] at h
  obtain ⟨cs, rfl, hsz, ts, hts', _, hcell⟩ := h
  have hts : Tryd.prog.cellTypes Tryd.prog.depth 27 = some (List.replicate 12 3) := by kernel_rfl
  rw [hts] at hts'
  cases hts'
  rw [show Tryd.prog.cellsOf 27 = 12 by kernel_rfl] at hsz
  have key : ∀ (i : Nat) (v : Value), cs[i]? = some v → ∃ m : Int, v = .int .i64 m := fun i v hv => by
    obtain ⟨u, hu, hk⟩ := hcell i v hv
    have : u = 3 := by
      rw [List.getElem?_replicate] at hu
      split at hu
      · exact (Option.some.inj hu).symm
      · cases hu
    subst this
    exact i64_ok hk
  obtain ⟨ls⟩ := cs
  match ls, hsz with
  | [x0, x1, x2, x3, x4, x5, x6, x7, x8, x9, x10, x11], _ =>
    obtain ⟨a0, rfl⟩ := key 0 x0 rfl
    obtain ⟨a1, rfl⟩ := key 1 x1 rfl
    obtain ⟨a2, rfl⟩ := key 2 x2 rfl
    obtain ⟨a3, rfl⟩ := key 3 x3 rfl
    obtain ⟨a4, rfl⟩ := key 4 x4 rfl
    obtain ⟨a5, rfl⟩ := key 5 x5 rfl
    obtain ⟨a6, rfl⟩ := key 6 x6 rfl
    obtain ⟨a7, rfl⟩ := key 7 x7 rfl
    obtain ⟨a8, rfl⟩ := key 8 x8 rfl
    obtain ⟨a9, rfl⟩ := key 9 x9 rfl
    obtain ⟨a10, rfl⟩ := key 10 x10 rfl
    obtain ⟨a11, rfl⟩ := key 11 x11 rfl
    exact ⟨fun q => [a0, a2, a1, a3, a4, a5, a6, a7, a8, a9, a10, a11].getD q 0, rfl, trivial⟩
/-- a row of small numbers as it was handed -/
structure Hz (w : World) (A : Option Addr) (n : Nat) (K : List Int) : Prop where
  len : K.length = n
  at' : 0 < n → ∃ b off, A = some ⟨b, off, none⟩ ∧ ∀ i, i < n → w.cell? ⟨b, off + i, none⟩ = some (.int .i64 (K.getD i 0))
  m : n ≤ 9223372036854775807
theorem Hz.below {w w' : World} {A : Option Addr} {n : Nat} {K : List Int} (h : Hz w A n K) (hx : Below w.heap.size w w') : Hz w' A n K :=
  ⟨h.len, fun h0 => by
    obtain ⟨b, off, e, hc⟩ := h.at' h0
    exact ⟨b, off, e, fun i hi => (hx.cell (World.block_lt_of_cell? _ _ (hc i hi))).trans (hc i hi)⟩, h.m⟩
theorem ints_of {H : Type} {enc : TypeId × Value → H} {W : World} {fuel : Nat} {c : Value} {y : DataW H × List MemPlace} (h : DataW.trod enc Tryd.prog W 0 (fun _ => true) true fuel 31 [c] = some y) :
    ∃ A n cap l, c = .slice A n cap ∧ Hz W A n l := by
  rcases open_ints Tryd.underlying31 Tryd.underlying3 cells3 h with ⟨hcs, _⟩ | ⟨x, len, cap, zs, hcs, _, hl, hm, hz, _, hcell, hwf⟩
  · simp at hcs
    subst hcs
    exact ⟨none, 0, 0, [], rfl, ⟨rfl, (fun h => absurd h (by omega)), by omega⟩⟩
  · simp at hcs
    subst hcs
    simp only [if_true] at hz
    refine ⟨some x, len, cap, zs.take len, rfl, ⟨by simp; omega, fun h0 => ?_, by unfold maxLen at hm; omega⟩⟩
    · obtain ⟨b, off, spot⟩ := x
      have hspot : spot = none := by simpa [Addr.add] using World.cell?_spot (hcell 0 (by omega))
      subst hspot
      refine ⟨b, off, rfl, fun i hi => ?_⟩
      have e := hcell i (by omega)
      rw [addr_add] at e
      rw [e]
      rw [List.getD_eq_getElem?_getD, List.getD_eq_getElem?_getD, List.getElem?_take, if_pos hi]
theorem okIntz {H : Type} {enc : TypeId × Value → H} {W : World} {base : Nat} {v : Value} {d : DataW H} {p : List MemPlace} (hv : Value.okWide Tryd.prog W .any base 31 v) (h : DataW.Trod enc Tryd.prog W 0 (fun _ => true) true 31 v d p) :
    ∃ (A : Option Addr) (n c : Nat) (l : List Int), v = .slice A n c ∧ Hz W A n l := by
  obtain ⟨A, n, c, rfl⟩ := okWide_slice Tryd.underlying31 hv
  obtain ⟨fuel, hf⟩ := h
  simp only [Value.cells] at hf
  obtain ⟨A1, n1, c1, l, e, hz⟩ := ints_of hf
  cases e
  exact ⟨A, n, c, l, rfl, hz⟩
end Dw
end Go.Proofs.YtambgmjiafcokaaDoor
