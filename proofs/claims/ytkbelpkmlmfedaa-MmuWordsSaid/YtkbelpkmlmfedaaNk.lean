/-
  Bounds of rows by their bulk; what the reading of an argument of the kind []string says, in the words of the walks.
-/
import Derived.Test.YtkbelpkmlmfedaaNs
import Derived.ProofKit
import Derived.OpenShut
import Derived.SliceStrings
import Derived.SizedLaws
namespace Go.Proofs.Ytkbelpkmlmfedaa
set_option linter.unusedVariables false
set_option maxRecDepth 100000
set_option linter.unusedSimpArgs false
open Go.ChangeShapes Go.WideShapes Go.ChangeAt Go.RowKit
namespace Nm
theorem room_le_bulk : ∀ l : List ByteArray, room l ≤ 5 * bulk l
  | [] => by simp [room, bulk]
  | s :: l => by
    have e : room (s :: l) = s.size + 5 + room l := by simp [room]
    have e2 : bulk (s :: l) = s.size + 1 + bulk l := by simp [bulk]
    have := room_le_bulk l
    omega
theorem len_le_bulk : ∀ l : List ByteArray, l.length ≤ bulk l
  | [] => by simp [bulk]
  | s :: l => by
    have e2 : bulk (s :: l) = s.size + 1 + bulk l := by simp [bulk]
    have := len_le_bulk l
    simp
    omega
theorem size_le_bulk : ∀ (l : List ByteArray) (s : ByteArray), s ∈ l → s.size ≤ bulk l
  | [], _, h => nomatch h
  | x :: l, s, h => by
    have e2 : bulk (x :: l) = x.size + 1 + bulk l := by simp [bulk]
    rcases List.mem_cons.1 h with rfl | h
    · omega
    · have := size_le_bulk l s h
      omega
theorem small_of_bulk {l : List ByteArray} (h : bulk l ≤ 268000000) : ∀ s ∈ l.map toL, s.length < 268435456 := by
  intro s hs
  obtain ⟨x, hx, rfl⟩ := List.mem_map.1 hs
  have := size_le_bulk l x hx
  rw [toL_length]
  omega
theorem texts_of_bulk {l : List ByteArray} (h : bulk l ≤ 5000) : Nu.texts (Nu.rowB (l.map toL)) = (l.map toL, 0) := Nu.texts_row (small_of_bulk (by omega))
theorem cells9 : Try.prog.cellsOf 9 = 1 := by kernel_rfl
theorem bytes9 : Try.prog.bytesOf 9 = 16 := by kernel_rfl
theorem weight_mem {H : Type} (s : ByteArray) : ∀ a : List ByteArray, s ∈ a → s.size ∈ DataW.weightsAll Try.prog 9 (strs (H := H) a)
  | [], h => nomatch h
  | x :: a, h => by
    rcases List.mem_cons.1 h with rfl | h
    · simp [strs, DataW.weightsAll, DataW.weights]
    · have := weight_mem (H := H) s a h
      simp only [strs, List.map_cons, DataW.weightsAll, List.mem_append] at this ⊢
      exact .inr this
theorem texts_arg {H : Type} {enc : TypeId × Value → H} {W : World} {ts : List TypeId} {ds : List (DataW H)} (hsz : (DataW.weightsEach Try.prog ts ds).all (· ≤ reachBytes) = true) {j : Nat} {d : DataW H} {p : List MemPlace}
    (ht : ts[j]? = some 53) (hd : ds[j]? = some d) {a : Option Addr} {len cap : Nat} (h : DataW.Trod enc Try.prog W 0 (fun _ => true) true 53 (Value.slice a len cap) d p) :
    ∃ l, Ts W a len l ∧ len ≤ 9223372036854775807 ∧ (∀ k, (nth l k).size ≤ 4611686018427387904) := by
  obtain ⟨fuel, hf⟩ := h
  rcases open_strings Try.underlying53 Try.underlying9 cells9 hf with ⟨hcs, _⟩ | ⟨x, len', cap', ss, hcs, _, hl, hm, hz, hx, hcell, _⟩
  · simp [Value.cells] at hcs
    obtain ⟨rfl, rfl, rfl⟩ := hcs
    exact ⟨[], ⟨rfl, fun h => absurd h (by omega)⟩, by omega, fun k => by simp [nth]⟩
  · simp [Value.cells] at hcs
    obtain ⟨rfl, rfl, rfl⟩ := hcs
    simp only [if_true] at hz
    simp only [Prod.mk.injEq] at hx
    obtain ⟨hx, _⟩ := hx
    subst hx
    have hs : ∀ s ∈ ss.take len, s.size ≤ reachBytes := fun s hs => by
      have h1 : s.size ∈ (DataW.slice (strs (H := H) (ss.take len)) (strs (ss.drop len))).weights Try.prog 53 := by
        simp only [DataW.weights, Try.underlying53]
        exact List.mem_cons_of_mem _ (List.mem_append_left _ (weight_mem s _ hs))
      simpa using List.all_eq_true.1 hsz _ (DataW.weights_mem_each ht hd _ h1)
    refine ⟨ss.take len, ⟨by simp; omega, fun h0 => ?_⟩, by unfold maxLen at hm; omega, fun k => ?_⟩
    · obtain ⟨b, off, spot⟩ := x
      have hspot : spot = none := by simpa [Addr.add] using World.cell?_spot (hcell 0 (by omega))
      subst hspot
      refine ⟨b, off, rfl, fun i hi => ?_⟩
      have e := hcell i (by omega)
      rw [addr_add] at e
      rw [e, nth_eq (by simp; omega), List.getElem_take]
      have hi' : i < ss.length := by omega
      simp [List.getD_eq_getElem?_getD, hi']
    · by_cases hk : k < (ss.take len).length
      · have h1 := hs _ (List.getElem_mem hk)
        rw [nth_eq hk]
        have := reachBytes_lt
        omega
      · unfold nth
        rw [List.getD_eq_getElem?_getD, List.getElem?_eq_none (by omega)]
        simp
end Nm
end Go.Proofs.Ytkbelpkmlmfedaa
