/-
  THE WALKS of a strings.Builder that a call has made itself.
-/
import Derived.Test.YtaoaebdjinlcnaaDoorSh
import Derived.Test.YtaoaebdjinlcnaaDoorSb
import Derived.Lib.BufferWrite
import Derived.Deep.MidRow
set_option linter.unusedVariables false
set_option linter.unusedSimpArgs false
set_option maxRecDepth 100000
namespace Go.Proofs.YtaoaebdjinlcnaaDoor
open Go.RowKit
/-- a builder of the call's own, used, that holds these bytes -/
def Bd (w : World) (B b : Nat) (L : List Nat) : Prop := Lib.BuilderAt 74 5 B b (.pointer (some ⟨b, 0, none⟩)) (Lib.byteCells (L.map UInt8.ofNat)) w
theorem Bd.drew {w : World} {B b : Nat} {L : List Nat} (h : Bd w B b L) : Bd w.drew B b L := h
theorem info5b : (Tryd.prog.info? 5).map (fun i => (i.zero, i.size, i.bytes)) = some (some (.int .u8 0), 1, 1) := by kernel_rfl
theorem cells_bytes {L : List Nat} (h : Bl.By L) : Lib.byteCells (L.map UInt8.ofNat) = (vs .u8 L).toList := by
  simp only [Lib.byteCells, vs, List.map_map]
  refine List.map_congr_left fun x hx => ?_
  have := h x hx
  simp [Nat.mod_eq_of_lt this]
theorem str_bytes (s : ByteArray) : Lib.strCells s = Lib.byteCells ((tn s).map UInt8.ofNat) := by
  have : (tn s).map UInt8.ofNat = s.data.toList := by
    unfold tn
    rw [List.map_map]
    have : (UInt8.ofNat ∘ UInt8.toNat) = id := by funext x; simp
    rw [this, List.map_id]
  rw [this]
  simp [Lib.strCells, Lib.byteCells]
theorem wstring_any (B b : Nat) (L : List Nat) (s : ByteArray) (w : World) (h : Bd w B b L) (hlen : L.length + s.size ≤ 4000000000) (hB : B ≤ w.heap.size) :
    Calls Tryd.prog 52 #[.pointer (some ⟨b, 0, none⟩), .string s] w fun e w' => e = .returned (.tuple #[.int .i64 s.size, .nilIface]) ∧ Bd w' B b (L ++ tn s) ∧ Below B w w' := by
  refine (Go.Proofs.Any.Builder_WriteString (P := Tryd.prog) (ρ := Tryd.lays105_ren) { Tryd.lays105 with } Tryd.Builder_Extra_105 B b _ s w (.inr h) (by rw [Lib.byteCells_length, List.length_map]; omega) hB).mono ?_
  rintro e w' ⟨rfl, h1, hx⟩
  refine ⟨rfl, ?_, hx⟩
  unfold Bd
  rw [str_bytes] at h1
  have e : Lib.byteCells ((L ++ tn s).map UInt8.ofNat) = Lib.byteCells (L.map UInt8.ofNat) ++ Lib.byteCells ((tn s).map UInt8.ofNat) := by simp [Lib.byteCells]
  rw [e]; exact h1
theorem string_any (B b : Nat) (L : List Nat) (w : World) (h : Bd w B b L) (hB : B ≤ w.heap.size) :
    Calls Tryd.prog 53 #[.pointer (some ⟨b, 0, none⟩)] w fun e w' => e = .returned (.string (bs L)) ∧ Below B w w' := Tryd.Builder_String_any B b _ w (.inr h) hB
set_option maxHeartbeats 1000000 in
/-- the first bytes that a fresh builder gets -/
theorem write_any (B b g : Nat) (t : TypeId) (K : List Nat) (n : Nat) (w : World) (hBb : B ≤ b) (hf : w.heap[b]? = some (.cells #[.pointer none, .slice none 0 0] 74 (0, 0))) (ho : Own w g t (vs .u8 K)) (hg : g < B) (hK : Bl.By K) (hn : K.length = n) (hl : n ≤ 1000000) (hB : B ≤ w.heap.size) :
    Calls Tryd.prog 71 #[.pointer (some ⟨b, 0, none⟩), .slice (some ⟨g, 0, none⟩) n n] w fun e w' => e = .returned (.tuple #[.int .i64 n, .nilIface]) ∧ Bd w' B b K ∧ Below B w w' := by
  have h0 : Lib.IsBuilder 74 5 B b [] w := .inl ⟨hBb, _, hf, ⟨rfl, .inl ⟨rfl, rfl⟩⟩, by simp [Value.ownBlock]⟩
  obtain ⟨i0, hi, hz0, hz1, hz2⟩ := info_parts info5b
  go_enter Tryd.func71, Tryd.ntmps71
  go_wp2_with (go_at_call 66; refine (Go.Proofs.Any.Builder_copyCheck (P := Tryd.prog) (ρ := Tryd.lays105_ren) { Tryd.lays105 with } Tryd.Builder_Extra_105.toX72 B b [] _ h0).mono ?_)
  rintro e w1 ⟨rfl, h1, hb1⟩
  replace ho := Below.own hb1 ho hg
  obtain ⟨hB', v, hbk, hown, hne⟩ := h1
  have c0 : w1.cell? ⟨b, 0, none⟩ = some (.pointer (some ⟨b, 0, none⟩)) := by rw [Lib.cell_of_heap hbk]; rfl
  have c1 : w1.cell? ⟨b, 1, none⟩ = some v := by rw [Lib.cell_of_heap hbk]; rfl
  have hz := hb1.size
  go_wp2_with (at_builtin; refine wpList_append_own _ rfl _ _ 45 rfl B 5 i0 (.int .u8 0) 1 1 Tryd.underlying45 hi hz0 hz1 hz2 rfl (by decide) _ _ _ rfl hown ⟨g, 0, none⟩ n n (vs .u8 K).toList rfl ?c1 ?c2 ?c3 ?c4 ?c5 ?c6 ?_)
  case c1 => rw [Array.length_toList, vs_size, hn, Nat.mul_one]
  case c2 =>
    intro j u hj
    rw [Addr.add_mid, Nat.zero_add, ho.cellv, ← Array.getElem?_toList]; exact hj
  case c3 =>
    intro u hu
    have := vs_one .u8 K
    rw [Array.all_eq_true_iff_forall_mem] at this
    exact this u (by simpa using hu)
  case c4 => simp; unfold maxLen; omega
  case c5 => simp; omega
  case c6 => omega
  intro v' w2 hown' hgrow _
  have hlt : b < w1.heap.size := by
    rcases Nat.lt_or_ge b w1.heap.size with h' | h'
    · exact h'
    · simp [Array.getElem?_eq_none h'] at hbk
  have hb2 : w2.heap[b]? = some (.cells #[.pointer (some ⟨b, 0, none⟩), v] 74 (0, 0)) := by
    rw [hgrow.block b hlt (fun e => hne e.symm)]
    exact hbk
  have d0 : w2.cell? ⟨b, 0, none⟩ = some (.pointer (some ⟨b, 0, none⟩)) := by rw [Lib.cell_of_heap hb2]; rfl
  have d1 : w2.cell? ⟨b, 1, none⟩ = some v := by rw [Lib.cell_of_heap hb2]; rfl
  have f1 : w2.frozen? ⟨b, 1, none⟩ = false := Lib.frozen_of_heap hb2 1
  obtain ⟨ao, n', cap, rfl⟩ : ∃ ao n' cap, v' = .slice ao n' cap := by
    rcases hown'.2 with ⟨hv, _⟩ | ⟨g, cap, cur, hv, _⟩
    · exact ⟨_, _, _, hv⟩
    · exact ⟨_, _, _, hv⟩
  go_wp2
  go_ret2
  refine ⟨rfl, ?_, ?_⟩
  · unfold Bd
    rw [cells_bytes hK]
    exact Lib.BuilderAt.put (T := 74) (e := 5) hBb hb2 (bs' := (vs .u8 K).toList) (by simpa [vs_size, hn] using hown') (by decide)
  · exact (hb1.grown hgrow (by omega) (fun k hk => (hown.lt k hk).1)).setCell (p := ⟨b, 1, none⟩) hBb _
end Go.Proofs.YtaoaebdjinlcnaaDoor
