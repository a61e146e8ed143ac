/-
  How the arguments of geom's laws are opened: rows of texts, two bytes, rows of small numbers.
-/
import Derived.Test.YtjfehloohpnmpaaDoorGs
import Derived.Test.YtjfehloohpnmpaaDoorOk
import Derived.ProofKit
import Derived.OpenShut
import Derived.ChangeSlices
import Derived.SliceStrings
import Derived.WideShapes
import Derived.Deep.Slices
import Derived.Deep.Fields
import Derived.ChangeSame
namespace Go.Proofs.YtjfehloohpnmpaaDoor
set_option linter.unusedVariables false
set_option maxRecDepth 100000
set_option linter.unusedSimpArgs false
open Go.ChangeShapes Go.WideShapes Go.ChangeAt Go.RowKit Go.Deep
namespace Dw
open _root_.Go.Proofs.YtjfehloohpnmpaaDoor.Nm
theorem cells9 : Tryd.prog.cellsOf 9 = 1 := by kernel_rfl
theorem cells56 : Tryd.prog.cellsOf 56 = 1 := by kernel_rfl
/-- a row of texts as it was handed -/
structure Sy (w : World) (A : Option Addr) (n c : Nat) (l : List ByteArray) : Prop where
  z : Tz w A n c l
  s : Lit l n
theorem Sy.below {w w' : World} {A : Option Addr} {n c : Nat} {l : List ByteArray} (h : Sy w A n c l) (hx : Below w.heap.size w w') : Sy w' A n c l := ⟨h.z.below hx, h.s⟩
theorem texts_of {H : Type} {enc : TypeId × Value → H} {W : World} {fuel : Nat} {c : Value} {y : DataW H × List MemPlace} (h : DataW.trod enc Tryd.prog W 0 (fun _ => true) true fuel 28 [c] = some y) :
    ∃ A n cap l, c = .slice A n cap ∧ Sy W A n cap l := by
  rcases open_strings Tryd.underlying28 Tryd.underlying9 cells9 h with ⟨hcs, _⟩ | ⟨x, len, cap, ss, hcs, _, hl, hm, hz, _, hcell, hsz⟩
  · simp at hcs
    subst hcs
    exact ⟨none, 0, 0, [], rfl, Tz.nil W, fun k hk => absurd hk (Nat.not_lt_zero _)⟩
  · simp at hcs
    subst hcs
    simp only [if_true] at hz
    refine ⟨some x, len, cap, ss.take len, rfl, ⟨⟨by simp; omega, fun h0 => ?_⟩, (fun e => by cases e), by unfold maxLen at hm; omega⟩, fun k hk => ?_⟩
    · obtain ⟨b, off, spot⟩ := x
      have hspot : spot = none := by simpa [Addr.add] using World.cell?_spot (hcell 0 (by omega))
      subst hspot
      refine ⟨b, off, rfl, fun i hi => ?_⟩
      have e := hcell i (by omega)
      rw [addr_add] at e
      rw [e]
      show _ = some (Value.string (nth _ _))
      unfold nth
      rw [List.getD_eq_getElem?_getD, List.getD_eq_getElem?_getD, List.getElem?_take, if_pos hi]
      rfl
    · unfold nth
      rw [List.getD_eq_getElem?_getD, List.getElem?_take, if_pos hk, List.getElem?_eq_getElem (by omega)]
      have := hsz _ (List.getElem_mem (show k < ss.length by omega))
      unfold maxLen at this
      exact this
theorem okStrs {H : Type} {enc : TypeId × Value → H} {W : World} {base : Nat} {v : Value} {d : DataW H} {p : List MemPlace} (hv : Value.okWide Tryd.prog W .any base 28 v) (h : DataW.Trod enc Tryd.prog W 0 (fun _ => true) true 28 v d p) :
    ∃ (A : Option Addr) (n c : Nat) (l : List ByteArray), v = .slice A n c ∧ Sy W A n c l := by
  obtain ⟨A, n, c, rfl⟩ := okWide_slice Tryd.underlying28 hv
  obtain ⟨fuel, hf⟩ := h
  simp only [Value.cells] at hf
  obtain ⟨A1, n1, c1, l, e, hz⟩ := texts_of hf
  cases e
  exact ⟨A, n, c, l, rfl, hz⟩
theorem u8_ok {W : World} {base : Nat} {v : Value} (h : Cell.okWide Tryd.prog W .any base 5 v) : ∃ m : Nat, v = .int .u8 (m : Int) ∧ m < 256 := by
  unfold Cell.okWide at h
  rw [Tryd.underlying5] at h
  cases v <;> simp only [Cell.ok, Tryd.underlying5] at h
  obtain ⟨rfl, h⟩ := h
  rename_i n
  simp [IntKind.has, IntKind.min, IntKind.max, IntKind.signed, IntKind.bits] at h
  obtain ⟨m, rfl⟩ := Int.eq_ofNat_of_zero_le h.1
  exact ⟨m, rfl, by omega⟩
def b2 (a b : Nat) : Array Value := #[.int .u8 (a : Int), .int .u8 (b : Int)]
theorem okB2 {W : World} {base : Nat} {v : Value} (h : Value.okWide Tryd.prog W .any base 39 v) : ∃ a b : Nat, v = .agg (b2 a b) ∧ a < 256 ∧ b < 256 := by
  simp only [Value.okWide, Tryd.underlying39] at h
  obtain ⟨cs, rfl, hsz, ts, hts', _, hcell⟩ := h
  have hts : Tryd.prog.cellTypes Tryd.prog.depth 39 = some (List.replicate 2 5) := by kernel_rfl
  rw [hts] at hts'
  cases hts'
  rw [show Tryd.prog.cellsOf 39 = 2 by kernel_rfl] at hsz
  have key : ∀ (i : Nat) (v : Value), cs[i]? = some v → ∃ m : Nat, v = .int .u8 (m : Int) ∧ m < 256 := fun i v hv => by
    obtain ⟨u, hu, hk⟩ := hcell i v hv
    have : u = 5 := by
      rw [List.getElem?_replicate] at hu
      split at hu
      · exact (Option.some.inj hu).symm
      · cases hu
    subst this
    exact u8_ok hk
  obtain ⟨ls⟩ := cs
  match ls, hsz with
  | [x, y], _ =>
    obtain ⟨a, rfl, ha⟩ := key 0 x rfl
    obtain ⟨b, rfl, hb⟩ := key 1 y rfl
    exact ⟨a, b, rfl, ha, hb⟩
/-- a row of small numbers as it was handed -/
structure Hz (w : World) (A : Option Addr) (n : Nat) (K : List Int) : Prop where
  len : K.length = n
  at' : 0 < n → ∃ b off, A = some ⟨b, off, none⟩ ∧ ∀ i, i < n → w.cell? ⟨b, off + i, none⟩ = some (.int .i16 (K.getD i 0))
  r : ∀ x ∈ K, -32768 ≤ x ∧ x ≤ 32767
  m : n ≤ 9223372036854775807
theorem Hz.below {w w' : World} {A : Option Addr} {n : Nat} {K : List Int} (h : Hz w A n K) (hx : Below w.heap.size w w') : Hz w' A n K :=
  ⟨h.len, fun h0 => by
    obtain ⟨b, off, e, hc⟩ := h.at' h0
    exact ⟨b, off, e, fun i hi => (hx.cell (World.block_lt_of_cell? _ _ (hc i hi))).trans (hc i hi)⟩, h.r, h.m⟩
theorem i16s_of {H : Type} {enc : TypeId × Value → H} {W : World} {fuel : Nat} {c : Value} {y : DataW H × List MemPlace} (h : DataW.trod enc Tryd.prog W 0 (fun _ => true) true fuel 40 [c] = some y) :
    ∃ A n cap l, c = .slice A n cap ∧ Hz W A n l := by
  rcases open_ints Tryd.underlying40 Tryd.underlying56 cells56 h with ⟨hcs, _⟩ | ⟨x, len, cap, zs, hcs, _, hl, hm, hz, _, hcell, hwf⟩
  · simp at hcs
    subst hcs
    exact ⟨none, 0, 0, [], rfl, ⟨rfl, (fun h => absurd h (by omega)), (fun x hx => nomatch hx), by omega⟩⟩
  · simp at hcs
    subst hcs
    simp only [if_true] at hz
    refine ⟨some x, len, cap, zs.take len, rfl, ⟨by simp; omega, fun h0 => ?_, fun x hx => ?_, by unfold maxLen at hm; omega⟩⟩
    · obtain ⟨b, off, spot⟩ := x
      have hspot : spot = none := by simpa [Addr.add] using World.cell?_spot (hcell 0 (by omega))
      subst hspot
      refine ⟨b, off, rfl, fun i hi => ?_⟩
      have e := hcell i (by omega)
      rw [addr_add] at e
      rw [e]
      rw [List.getD_eq_getElem?_getD, List.getD_eq_getElem?_getD, List.getElem?_take, if_pos hi]
    · have := hwf x (List.mem_of_mem_take hx)
      simp [Lit.wf, IntKind.min, IntKind.max, IntKind.signed, IntKind.bits] at this
      omega
theorem okI16s {H : Type} {enc : TypeId × Value → H} {W : World} {base : Nat} {v : Value} {d : DataW H} {p : List MemPlace} (hv : Value.okWide Tryd.prog W .any base 40 v) (h : DataW.Trod enc Tryd.prog W 0 (fun _ => true) true 40 v d p) :
    ∃ (A : Option Addr) (n c : Nat) (l : List Int), v = .slice A n c ∧ Hz W A n l := by
  obtain ⟨A, n, c, rfl⟩ := okWide_slice Tryd.underlying40 hv
  obtain ⟨fuel, hf⟩ := h
  simp only [Value.cells] at hf
  obtain ⟨A1, n1, c1, l, e, hz⟩ := i16s_of hf
  cases e
  exact ⟨A, n, c, l, rfl, hz⟩
end Dw
end Go.Proofs.YtjfehloohpnmpaaDoor
