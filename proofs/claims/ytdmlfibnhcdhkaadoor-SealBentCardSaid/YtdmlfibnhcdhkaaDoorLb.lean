/-
  A text turned into a slice of bytes, read, changed at one place and read again; what a bent box is opened to.
-/
import Derived.Test.YtdmlfibnhcdhkaaDoorLw
import Derived.Lib.ConvBytes
namespace Go.Proofs.YtdmlfibnhcdhkaaDoor
open Go.RowKit
/-- bytes in a block of their own, that may be written -/
def Bt (W : World) (g : Nat) (L : List Nat) : Prop :=
  ∃ cs lo hi, W.heap[g]? = some (.cells cs 5 (lo, hi)) ∧ L.length ≤ lo ∧ L.length ≤ cs.size ∧ ∀ j, j < L.length → cs[j]? = some (.int .u8 (Bl.nth L j : Nat))
theorem Bt.lt {W : World} {g : Nat} {L : List Nat} (h : Bt W g L) : g < W.heap.size := by
  obtain ⟨cs, lo, hi, h1, _⟩ := h
  rcases Nat.lt_or_ge g W.heap.size with h' | h'
  · exact h'
  · rw [Array.getElem?_eq_none h'] at h1; cases h1
theorem Bt.cell {W : World} {g : Nat} {L : List Nat} (h : Bt W g L) {j : Nat} (hj : j < L.length) : W.cell? ⟨g, j, none⟩ = some (.int .u8 (Bl.nth L j : Nat)) := by
  obtain ⟨cs, lo, hi, h1, _, _, h4⟩ := h
  simp [World.cell?, h1, h4 j hj]
theorem Bt.frozen {W : World} {g : Nat} {L : List Nat} (h : Bt W g L) {j : Nat} (hj : j < L.length) : W.frozen? ⟨g, j, none⟩ = false := by
  obtain ⟨cs, lo, hi, h1, h2, _⟩ := h
  simp [World.frozen?, h1]; omega
theorem Bt.below {W W' : World} {g : Nat} {L : List Nat} (h : Bt W g L) (hx : Below W.heap.size W W') : Bt W' g L := by
  obtain ⟨cs, lo, hi, h1, h2⟩ := h
  exact ⟨cs, lo, hi, by rw [hx.block g (Bt.lt ⟨cs, lo, hi, h1, h2⟩)]; exact h1, h2⟩
theorem Bt.set {W : World} {g : Nat} {L : List Nat} (h : Bt W g L) (i x : Nat) : Bt (W.setCell ⟨g, i, none⟩ (.int .u8 (x : Int))) g (L.set i x) := by
  obtain ⟨cs, lo, hi, h1, h2, h3, h4⟩ := h
  refine ⟨cs.setIfInBounds i (.int .u8 (x : Int)), lo, hi, by simp [World.setCell, Array.getElem?_modify, h1], by simpa using h2, by simpa using h3, fun j hj => ?_⟩
  rw [List.length_set] at hj
  rw [Array.getElem?_setIfInBounds]
  unfold Bl.nth
  rw [List.getD_eq_getElem?_getD, List.getElem?_set]
  by_cases e : i = j
  · subst e
    simp [show i < cs.size by omega, hj]
  · have := h4 j hj
    unfold Bl.nth at this
    rw [List.getD_eq_getElem?_getD] at this
    simp [e, this]
theorem Bt.conv {W : World} {g : Nat} {L : List Nat} (h : Bt W g L) (n c : Nat) (hn : n ≤ L.length) : (convert 33 9 (.slice (some ⟨g, 0, none⟩) n c)).run Tryd.prog W = .ok (.string (bs (L.take n))) W := by
  have e := run_convert_bytes_arg W 33 5 Tryd.underlying33 Tryd.underlying5 g 0 n c ((L.take n).map fun (x : Nat) => (x : Int)) (by simp; omega) (fun i hi => by
    rw [Nat.zero_add, h.cell (by omega), Bl.nth_lt (by omega)]
    simp [List.getD_eq_getElem?_getD, hi, show i < L.length by omega]) 9 Tryd.underlying9
  rw [e]
  unfold strOfNums bs
  simp [List.map_map, Function.comp_def]
theorem bw_below (w : World) (s : ByteArray) : Below w.heap.size w (Lib.bytesWorld w 5 s) :=
  ⟨by unfold Lib.bytesWorld World.freeze; split <;> rfl, by unfold Lib.bytesWorld World.freeze; split <;> rfl, by unfold Lib.bytesWorld World.freeze; split <;> rfl, by rw [Lib.bytesWorld_size]; omega, fun k hk => Lib.bytesWorld_at_old w 5 s k hk⟩
theorem bw_bt (w : World) (s : ByteArray) : Bt (Lib.bytesWorld w 5 s) w.heap.size (tn s) := by
  refine ⟨_, _, _, Lib.bytesWorld_at_new w 5 s, ?_, ?_, fun j hj => ?_⟩
  · simp [Lib.bytesCells, tn]
  · simp [Lib.bytesCells, tn]
  · have := Lib.bytesWorld_cell w 5 s j (by rw [tn_length] at hj; exact hj)
    simp only [World.cell?, Lib.bytesWorld_at_new] at this
    rw [if_neg (by simp)] at this
    rw [this]
    rw [tn_length] at hj
    unfold Bl.nth tn
    simp [List.getD_eq_getElem?_getD, hj]
/-- a box of a box's length is refused, if at all, with the number five -/
theorem openD_big {K : List Nat} {h x : ByteArray} (hx : ¬ x.size < 44) : (openD K h x).2 = 0 ∨ openD K h x = (⟨#[]⟩, 5) := by
  unfold openD
  rw [if_neg hx]
  split
  · exact .inl rfl
  · exact .inr rfl
end Go.Proofs.YtdmlfibnhcdhkaaDoor
