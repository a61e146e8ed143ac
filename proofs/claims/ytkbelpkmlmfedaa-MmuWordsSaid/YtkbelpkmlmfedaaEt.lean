/-
  THE WALKS of a program's words as bytes: the code's and the document's; words as they lie.
-/
import Derived.Test.YtkbelpkmlmfedaaEc
namespace Go.Proofs.Ytkbelpkmlmfedaa
set_option linter.unusedVariables false
set_option maxRecDepth 100000
set_option linter.unusedSimpArgs false
open Go.RowKit
namespace Xe
open _root_.Go.Proofs.Ytkbelpkmlmfedaa.Nm
def wn (l : List Nat) (i : Nat) : Nat := l.getD i 0
theorem wn_eq {l : List Nat} {i : Nat} (h : i < l.length) : wn l i = l[i] := by unfold wn; simp [List.getD_eq_getElem?_getD, h]
theorem wn_lt {l : List Nat} {i : Nat} (hw : Em.Wd l) (h : i < l.length) : wn l i < 4294967296 := by rw [wn_eq h]; exact hw _ (List.getElem_mem h)
/-- the slice reads as these words -/
def Ws (w : World) (a : Option Addr) (len : Nat) (l : List Nat) : Prop :=
  l.length = len ∧ (0 < len → ∃ b off, a = some ⟨b, off, none⟩ ∧ ∀ i, i < len → w.cell? ⟨b, off + i, none⟩ = some (.int .u32 (wn l i : Nat)))
theorem Ws.below {a b : World} {x : Option Addr} {len : Nat} {l : List Nat} (h : Ws a x len l) (k : Below a.heap.size a b) : Ws b x len l :=
  ⟨h.1, fun h0 => by
    obtain ⟨g, off, e, hc⟩ := h.2 h0
    exact ⟨g, off, e, fun i hi => (k.cell (World.block_lt_of_cell? _ _ (hc i hi))).trans (hc i hi)⟩⟩
theorem take_next {l : List Nat} {k : Nat} (h : k < l.length) : l.take (k + 1) = l.take k ++ [wn l k] := by
  rw [List.take_succ_eq_append_getElem h, wn_eq h]
/-- a builder of the call's own, fresh or used -/
def Bf (w : World) (B b : Nat) (l : List UInt8) : Prop := Lib.IsBuilder 107 5 B b (Lib.byteCells l) w
theorem Bf.new (w : World) : Bf (w.alloc (Obj.cells #[.pointer none, .slice none 0 0] 107)) w.heap.size w.heap.size [] :=
  .inl ⟨Nat.le_refl _, _, Own.new _ _ _, ⟨rfl, .inl ⟨rfl, rfl⟩⟩, by simp [Value.ownBlock]⟩
theorem Bf.below {w w1 : World} {B b : Nat} {l : List UInt8} (h : Bf w B b l) (hx : Below w.heap.size w w1) : Bf w1 B b l := by
  have key : ∀ p, Lib.BuilderAt 107 5 B b p (Lib.byteCells l) w → Lib.BuilderAt 107 5 B b p (Lib.byteCells l) w1 := fun p h => by
    obtain ⟨hB, v, hb, hown, hne⟩ := h
    refine ⟨hB, v, (hx.block b (lt_of_block hb)).trans hb, ⟨hown.1, ?_⟩, hne⟩
    rcases hown.2 with h | ⟨g, cap, cur, e, h1, h2, h3⟩
    · exact .inl h
    · exact .inr ⟨g, cap, cur, e, h1, (hx.block g (lt_of_block h2)).trans h2, h3⟩
  exact h.imp (key _) (key _)
theorem fwrite (B b : Nat) (l : List UInt8) (s : ByteArray) (w : World) (h : Bf w B b l) (hlen : l.length + s.size ≤ 4000000000) (hB : B ≤ w.heap.size) :
    Calls Try.prog 69 #[.pointer (some ⟨b, 0, none⟩), .string s] w fun e w' => e = .returned (.tuple #[.int .i64 s.size, .nilIface]) ∧ Bf w' B b (l ++ toL s) ∧ Below B w w' := by
  refine (Go.Proofs.Any.Builder_WriteString (P := Try.prog) (ρ := Try.lays105_ren) { Try.lays105 with } Try.Builder_Extra_105 B b _ s w h (by rw [Lib.byteCells_length]; omega) hB).mono ?_
  rintro e w' ⟨rfl, h1, hx⟩
  refine ⟨rfl, ?_, hx⟩
  have e : Lib.byteCells (l ++ toL s) = Lib.byteCells l ++ Lib.strCells s := by simp [Lib.byteCells, Lib.strCells, toL]
  unfold Bf
  rw [e]; exact .inr h1
theorem fstring (B b : Nat) (l : List UInt8) (w : World) (h : Bf w B b l) (hB : B ≤ w.heap.size) :
    Calls Try.prog 70 #[.pointer (some ⟨b, 0, none⟩)] w fun e w' => e = .returned (.string ⟨l.toArray⟩) ∧ Below B w w' := Try.Builder_String_any B b _ w h hB
theorem txt_next {l : List Nat} {k : Nat} (h : k < l.length) : Em.txt (l.take (k + 1)) = Em.txt (l.take k) ++ Nu.putB (wn l k) 4 := by
  rw [take_next h, Em.txt_append, Em.txt_one]
set_option maxHeartbeats 1000000 in
theorem text_any (a : Option Addr) (n c : Nat) (l : List Nat) (w : World) (hW : Ws w a n l) (hw : Em.Wd l) (hn : n ≤ 100000) :
    Calls Try.prog 44 #[.slice a n c] w fun e w' => e = .returned (.string ⟨(Em.txt l).toArray⟩) ∧ Below w.heap.size w w' := by
  have HL := Lib.hid hW.1
  have HW := Lib.hid hw
  clear hw
  go_enter Try.func44, Try.ntmps44
  go_wp2_with fail
  go_loopw [8] (fun i wr => ∃ k : Nat, k ≤ n ∧ i = .int .i64 k ∧ Bf wr w.heap.size w.heap.size (Em.txt (l.take k)) ∧ Below w.heap.size w wr) (fun i _ => n - (intOf i).toNat)
  case atStart => exact ⟨0, Nat.zero_le _, rfl, Bf.new w, grow _ _⟩
  case round =>
    obtain ⟨k, hk, rfl, hB, hx⟩ := hrel
    by_cases hlt : k < n
    · obtain ⟨b, off, rfl, hc⟩ := hW.2 (by omega)
      have c1 := (hx.cell (World.block_lt_of_cell? _ _ (hc k hlt))).trans (hc k hlt)
      have hv := wn_lt HW.out (show k < l.length by have := HL.out; omega)
      have HT := Lib.hid (txt_next (show k < l.length by have := HL.out; omega))
      have hz : (Em.txt (l.take k)).length ≤ 400000 := by rw [Em.txt_len]; simp; omega
      generalize hv' : wn l k = v at *
      clear hc hv'
      go_wp2_with fail
      refine (put_any v 4 4 _ (by omega) (by decide)).mono ?_
      rintro e w1 ⟨rfl, hx1⟩
      replace hB := hB.below hx1
      replace hx := hx.trans (hx1.mono hx.size)
      go_wp2_with fail
      refine (fwrite _ _ _ _ _ hB (by simp only [← toL_length, toL]; rw [Nu.putB_length]; omega) hx.size).mono ?_
      rintro e w2 ⟨rfl, hB, hx2⟩
      replace hx := hx.trans hx2
      go_wp2_with fail
      go_roundw
      case rel =>
        refine ⟨k + 1, by omega, by go_num, ?_, hx⟩
        rw [HT.out]
        exact hB
      case measure => simp [intOf]; omega
    · obtain rfl : k = n := by omega
      have e : l.take k = l := List.take_of_length_le (Nat.le_of_eq HL.out)
      rw [e] at hB
      go_wp2_with fail
      refine (fstring _ _ _ _ hB hx.size).mono ?_
      rintro e w2 ⟨rfl, hx2⟩
      replace hx := hx.trans hx2
      go_wp2_with fail
      go_ret
      exact ⟨rfl, hx⟩
end Xe
end Go.Proofs.Ytkbelpkmlmfedaa
