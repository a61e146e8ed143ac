/-
  THE WALK of bytes turned by the blocks, of the document's answer.
-/
import Derived.Test.YtoggibooinhomaaDoorCLk
namespace Go.Proofs.YtoggibooinhomaaDoor.Ci
set_option linter.unusedVariables false
set_option linter.unusedSimpArgs false
open Go.RowKit
theorem info_parts {t : TypeId} {z : Value} {s b : Nat} (h : (Tryd.prog.info? t).map (fun i => (i.zero, i.size, i.bytes)) = some (some z, s, b)) : ∃ i, Tryd.prog.info? t = some i ∧ i.zero = some z ∧ i.size = s ∧ i.bytes = b := by
  obtain ⟨i, hi, hz⟩ := Option.map_eq_some_iff.1 h
  simp only [Prod.mk.injEq] at hz
  exact ⟨i, hi, hz.1, hz.2.1, hz.2.2⟩
/-- a row of the call's own, of these bytes -/
def OB (w : World) (B g n cap : Nat) (l : List Nat) : Prop := l.length = n ∧ w.ownsRow B 5 1 (.slice (some ⟨g, 0, none⟩) n cap) n (vl l)
theorem OB.block {w : World} {B g n cap : Nat} {l : List Nat} (h : OB w B g n cap l) : B ≤ g ∧ g < w.heap.size := by
  rcases h.2.2 with ⟨h1, _⟩ | ⟨g', c, cur, h1, h2, h3, _⟩
  · injection h1 with h1; cases h1
  · injection h1 with h1
    injection h1 with h1
    injection h1 with h1
    subst h1
    exact ⟨h2, Own.lt h3⟩
theorem OB.keep {w w' : World} {B g n cap : Nat} {l : List Nat} (h : OB w B g n cap l) (hb : w'.heap[g]? = w.heap[g]?) : OB w' B g n cap l := by
  refine ⟨h.1, h.2.1, ?_⟩
  rcases h.2.2 with h1 | ⟨g', c, cur, h1, h2, h3, h4⟩
  · exact .inl h1
  · injection h1 with h1 h1' h1''
    injection h1 with h1
    injection h1 with h1
    subst h1 h1''
    exact .inr ⟨g, cap, cur, rfl, h2, hb.trans h3, h4⟩
theorem OB.below {w w' : World} {B g n cap : Nat} {l : List Nat} (h : OB w B g n cap l) (hb : Below w.heap.size w w') : OB w' B g n cap l := h.keep (hb.block g h.block.2)
theorem OB.row {w : World} {B g n cap : Nat} {l : List Nat} (h : OB w B g n cap l) (p : Nat) (c : Array Value) (hp : g ≠ p) : OB (w.setRow p c) B g n cap l := h.keep (heap_setRow _ _ _ _ hp)
theorem OB.empty {w : World} {B g : Nat} (h : Own w g 5 #[]) (hB : B ≤ g) : OB w B g 0 0 [] :=
  ⟨rfl, rfl, .inr ⟨g, 0, #[], rfl, hB, h, Nat.le_refl _, by decide, rfl, rfl⟩⟩
theorem OB.conv {w : World} {B g n cap : Nat} {l : List Nat} (h : OB w B g n cap l) : (convert 36 9 (.slice (some ⟨g, 0, none⟩) n cap)).run Tryd.prog w = .ok (.string (bs l)) w := by
  have hl := h.1
  subst hl
  have e := run_convert_bytes_arg w 36 5 Tryd.underlying36 Tryd.underlying5 g 0 l.length cap (l.map fun (x : Nat) => (x : Int)) (by simp) (fun i hi => by
    have hc := h.2.cells (g := g) rfl i (.int .u8 (Ch.nth l i : Nat)) (by unfold vl; rw [List.getElem?_map, Ch.nth_get hi]; rfl)
    rw [Addr.add_mid] at hc
    rw [hc, Ch.nth_lt hi]
    simp [List.getD_eq_getElem?_getD, hi]) 9 Tryd.underlying9
  rw [e]
  unfold strOfNums bs
  simp [List.map_map, Function.comp_def]
/-- the number of the block that comes next -/
def nx (n i : Nat) : Nat := (n + (i + 63) / 64) % 4294967296
theorem nx_zero (n : Nat) (h : n < 4294967296) : nx n 0 = n := by unfold nx; omega
theorem nx_at {n i : Nat} (h : i % 64 = 0) : nx n i = no n i ∧ nx n (i + 1) = (nx n i + 1) % 4294967296 := by unfold nx no; omega
theorem nx_in {n i : Nat} (h : i % 64 ≠ 0) : nx n (i + 1) = nx n i := by unfold nx; omega
end Go.Proofs.YtoggibooinhomaaDoor.Ci
