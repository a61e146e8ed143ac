/-
  What seal answers, as plain mathematics, and the calls of num and cipher in the words of one set of definitions.
-/
import Derived.Test.YtaoaebdjinlcnaaDoorKr
import Derived.Test.YtaoaebdjinlcnaaDoorCXr
import Derived.Test.YtaoaebdjinlcnaaDoorUNl
set_option linter.unusedVariables false
set_option linter.unusedSimpArgs false
set_option maxRecDepth 100000
namespace Go.Proofs.YtaoaebdjinlcnaaDoor
open Go.RowKit
/-- the words 'cipher' and 'tag' -/
def wC : List Nat := [99, 105, 112, 104, 101, 114]
def wT : List Nat := [116, 97, 103]
/-- the row of two texts -/
def rowN (h b : ByteArray) : ByteArray := ⟨(Nu.rowB ([h, b].map Un.Nm.toL)).toArray⟩
/-- the stream over data -/
def strm (K N : List Nat) (d : ByteArray) : ByteArray := bs (Ci.xs (Bl.keyed K wC) N 1 (tn d))
/-- a box ahead of its tag -/
def bodyD (K N : List Nat) (d : ByteArray) : ByteArray := bs N ++ strm K N d
def tagD (K : List Nat) (h b : ByteArray) : List Nat := Bl.keyed (Bl.keyed K wT) (tn (rowN h b))
def boxD (K N : List Nat) (h d : ByteArray) : ByteArray := bodyD K N d ++ bs (tagD K h (bodyD K N d))
/-- the first twelve bytes -/
def nonD (s : ByteArray) : List Nat := (tn s ++ List.replicate 12 0).take 12
/-- what a box has, or the number of the error -/
def openD (K : List Nat) (h x : ByteArray) : ByteArray × Nat :=
  if x.size < 44 then (⟨#[]⟩, 4)
  else if bs (tagD K h (x.extract 0 (x.size - 32))) = x.extract (x.size - 32) x.size then (strm K (nonD x) (x.extract 12 (x.size - 32)), 0)
  else (⟨#[]⟩, 5)
theorem keyed_len (K t : List Nat) : (Bl.keyed K t).length = 32 := Bl.digest_length _ _
theorem keyed_by (K t : List Nat) : Bl.By (Bl.keyed K t) := Bl.digest_by _ _
theorem strm_size (K N : List Nat) (d : ByteArray) : (strm K N d).size = d.size := by
  rw [strm, bs_size, Ci.xs, List.length_map, List.length_range, tn_length]
theorem size_append (a b : ByteArray) : (a ++ b).size = a.size + b.size := by simp
theorem bodyD_size {K N : List Nat} {d : ByteArray} (lN : N.length = 12) : (bodyD K N d).size = d.size + 12 := by
  rw [bodyD, size_append, bs_size, strm_size]; omega
theorem tagD_len (K : List Nat) (h b : ByteArray) : (tagD K h b).length = 32 := keyed_len _ _
theorem boxD_size {K N : List Nat} {h d : ByteArray} (lN : N.length = 12) : (boxD K N h d).size = d.size + 44 := by
  rw [boxD, size_append, bs_size, bodyD_size lN, tagD_len]
theorem nonD_len (s : ByteArray) : (nonD s).length = 12 := by simp [nonD]
theorem nonD_by (s : ByteArray) : Bl.By (nonD s) := fun x hx => by
  have h := List.mem_of_mem_take hx
  rcases List.mem_append.1 h with h | h
  · exact tn_by s x h
  · rw [(List.mem_replicate.1 h).2]; decide
theorem rowN_size (h b : ByteArray) (hs : h.size + b.size ≤ 1000000) : (rowN h b).size ≤ h.size + b.size + 10 := by
  have := Un.Nm.rowB_length_le [h, b] (by simp [Un.Nm.room]; omega)
  have e : Un.Nm.room [h, b] = h.size + b.size + 10 := by simp [Un.Nm.room]; omega
  rw [e] at this
  rw [rowN]
  show (Nu.rowB ([h, b].map Un.Nm.toL)).toArray.size ≤ _
  rw [List.size_toArray]
  exact this
/-- parts as the texts of num -/
theorem pts_ts {wr : World} {g : Nat} {h b : ByteArray} (c0 : wr.cell? ⟨g, 0, none⟩ = some (.string h)) (c1 : wr.cell? ⟨g, 1, none⟩ = some (.string b)) : Un.Nm.Ts wr (some ⟨g, 0, none⟩) 2 [h, b] :=
  ⟨rfl, fun _ => ⟨g, 0, rfl, fun i hi => by
    match i, hi with
    | 0, _ => exact c0
    | 1, _ => exact c1⟩⟩
theorem row_two (g : Nat) (h b : ByteArray) (w : World) (c0 : w.cell? ⟨g, 0, none⟩ = some (.string h)) (c1 : w.cell? ⟨g, 1, none⟩ = some (.string b)) (hs : h.size + b.size ≤ 1000000) :
    Calls Tryd.prog 31 #[.slice (some ⟨g, 0, none⟩) 2 2] w fun e w' => e = .returned (.string (rowN h b)) ∧ Below w.heap.size w w' :=
  Un.Nm.row_any _ 2 2 [h, b] w (pts_ts c0 c1) (by simp [Un.Nm.room]; omega) (by decide)
theorem rrow_two (g : Nat) (h b : ByteArray) (w : World) (c0 : w.cell? ⟨g, 0, none⟩ = some (.string h)) (c1 : w.cell? ⟨g, 1, none⟩ = some (.string b)) (hs : h.size + b.size ≤ 1000000) :
    Calls Tryd.prog 25 #[.slice (some ⟨g, 0, none⟩) 2 2] w fun e w' => e = .returned (.string (rowN h b)) ∧ Below w.heap.size w w' :=
  Un.Nm.rrow_any _ 2 2 [h, b] w (pts_ts c0 c1) (by simp [Un.Nm.room]; omega) (by decide)
theorem xor_one (K N : List Nat) (s : ByteArray) (hK : Bl.By K) (hN : Bl.By N) (lK : K.length = 32) (lN : N.length = 12) (hs : s.size ≤ 10000) (w : World) :
    Calls Tryd.prog 65 #[.agg (vs .u8 K), .agg (vs .u8 N), .int .u32 1, .string s] w fun e w' => e = .returned (.string (bs (Ci.xs K N 1 (tn s)))) ∧ Below w.heap.size w w' :=
  Ci.cxor_any K N 1 s hK hN lK lN (by decide) hs w
theorem rxor_one (K N : List Nat) (s : ByteArray) (hK : Bl.By K) (hN : Bl.By N) (lK : K.length = 32) (lN : N.length = 12) (hs : s.size ≤ 10000) (w : World) :
    Calls Tryd.prog 55 #[.agg (vs .u8 K), .agg (vs .u8 N), .int .u32 1, .string s] w fun e w' => e = .returned (.string (bs (Ci.xs K N 1 (tn s)))) ∧ Below w.heap.size w w' :=
  Ci.rxor_any K N 1 s hK hN lK lN (by decide) hs w
end Go.Proofs.YtaoaebdjinlcnaaDoor
