/-
  THE WALK of the chapter's examples: they come out; the code's Cut, as a slice of parts.
-/
import Derived.Test.YtgfnpemonpebpaaCu
namespace Go.Proofs.Ytgfnpemonpebpaa
open Go.RowKit
set_option linter.unusedVariables false
set_option linter.unusedSimpArgs false
/-- parts lie from a place on -/
def Pl (w : World) (b o : Nat) (l : List (Int × ByteArray)) : Prop := ∀ i x, l[i]? = some x → w.cell? ⟨b, o + i * 2, none⟩ = some (.int .i64 x.1) ∧ w.cell? ⟨b, o + i * 2 + 1, none⟩ = some (.string x.2)
theorem fl_get : ∀ (l : List (Int × ByteArray)) (i : Nat) (x : Int × ByteArray), l[i]? = some x → (fl l)[i * 2]? = some (.int .i64 x.1) ∧ (fl l)[i * 2 + 1]? = some (.string x.2)
  | [], i, x, h => by simp at h
  | y :: t, 0, x, h => by
    simp at h; subst h
    exact ⟨rfl, rfl⟩
  | y :: t, i + 1, x, h => by
    rw [List.getElem?_cons_succ] at h
    have ih := fl_get t i x h
    have e : fl (y :: t) = .int .i64 y.1 :: .string y.2 :: fl t := rfl
    rw [e, show (i + 1) * 2 = i * 2 + 1 + 1 from by omega]
    simpa only [List.getElem?_cons_succ] using ih
theorem Pl.below {w w' : World} {b o : Nat} {l : List (Int × ByteArray)} (h : Pl w b o l) (hb : Below w.heap.size w w') : Pl w' b o l := fun i x hx => by
  obtain ⟨h1, h2⟩ := h i x hx
  have hl : b < w.heap.size := World.block_lt_of_cell? w _ h1
  exact ⟨(hb.cell (p := ⟨b, o + i * 2, none⟩) hl).trans h1, (hb.cell (p := ⟨b, o + i * 2 + 1, none⟩) hl).trans h2⟩
theorem Pl.belowB {w w' : World} {b o B : Nat} {l : List (Int × ByteArray)} (h : Pl w b o l) (hb : Below B w w') (hB : b < B) : Pl w' b o l := fun i x hx => by
  obtain ⟨h1, h2⟩ := h i x hx
  exact ⟨(hb.cell (p := ⟨b, o + i * 2, none⟩) hB).trans h1, (hb.cell (p := ⟨b, o + i * 2 + 1, none⟩) hB).trans h2⟩
theorem Pl.of_row {w : World} {base g n cap : Nat} {l : List (Int × ByteArray)} (h : w.ownsRow base 29 2 (.slice (some ⟨g, 0, none⟩) n cap) n (fl l)) : Pl w g 0 l := fun i x hx => by
  obtain ⟨h1, h2⟩ := fl_get l i x hx
  have hc := h.cells (g := g) rfl
  have e : ∀ j, (⟨g, 0, none⟩ : Addr).add j = ⟨g, 0 + j, none⟩ := fun j => by by_cases h : j = 0 <;> simp [Addr.add, h]
  have k1 := hc _ _ h1
  have k2 := hc _ _ h2
  rw [e] at k1 k2
  exact ⟨k1, k2⟩
theorem cut_any (D : ByteArray) (hD : D.size ≤ 1000000) (w : World) :
    Calls Try.prog 11 #[.string D] w fun e w' => ∃ g cap, e = .returned (.slice (some ⟨g, 0, none⟩) 5 cap) ∧ w.heap.size ≤ g ∧ g < w'.heap.size ∧ 5 ≤ cap ∧ Pl w' g 0 (five (toN D)) ∧ Below w.heap.size w w' := by
  refine (callsIn_wide.1 (cut_in 3 (by omega) D hD w)).mono ?_
  rintro e w' ⟨v, rfl, hr, hb⟩
  obtain ⟨g, cap, rfl⟩ := ownsRow_succ hr
  have hl := hr.lt g rfl
  have hcap : 5 ≤ cap := by
    rcases hr.2 with ⟨h, _⟩ | ⟨g', cap', cur, h, _, _, h5, _⟩
    · simp at h
    · simp at h; omega
  exact ⟨g, cap, rfl, hl.1, hl.2, hcap, Pl.of_row hr, hb⟩
theorem five_get (L : List Nat) {i : Nat} (h : i < 5) : (five L)[i]? = some (((i + 1 : Nat) : Int), bs (Pa.part L (i + 1))) := by
  simp [five, h]
theorem abc1 : bs (Pa.part (toN ⟨#[97, 98, 99]⟩) 1) = ⟨#[97]⟩ := by decide +kernel
theorem abc3 : bs (Pa.part (toN ⟨#[97, 98, 99]⟩) 3) = ⟨#[99]⟩ := by decide +kernel
theorem abc5 : (bs (Pa.part (toN ⟨#[97, 98, 99]⟩) 5)).size = 1 := by decide +kernel
set_option maxRecDepth 100000 in
set_option maxHeartbeats 4000000 in
theorem fixed_any (w : World) : Calls Try.prog 9 #[] w fun e w' => e = .returned (.bool true) ∧ Below w.heap.size w w' := by
  have h1 := fun w => cut_any ⟨#[97, 98, 99]⟩ (by decide) w
  have h2 := fun w => cut_any ⟨#[]⟩ (by decide) w
  go_enter Try.func9, Try.ntmps9
  go_wp2_with fail
  refine (h1 _).mono ?_
  rintro e w1 ⟨g, cap, rfl, _, _, _, hp, hb⟩
  have p0 := hp 0 _ (five_get _ (by omega))
  have p2 := hp 2 _ (five_get _ (by omega))
  have p4 := (hp 4 _ (five_get _ (by omega))).2
  obtain ⟨c0, c1⟩ := p0
  obtain ⟨c4, c5⟩ := p2
  rw [abc1] at c1
  rw [abc3] at c5
  have s5 := abc5
  simp only [Nat.zero_add, Nat.zero_mul, Nat.reduceMul, Nat.reduceAdd, Int.natCast_one] at c0 c1 c4 c5 p4 s5
  generalize bs (Pa.part (toN ⟨#[97, 98, 99]⟩) 5) = P5 at *
  clear h1 hp
  go_wp2_with fail
  refine (h2 _).mono ?_
  rintro e w2 ⟨g2, cap2, rfl, _, _, _, _, hb2⟩
  go_wp2_with fail
  go_ret
  exact ⟨rfl, hb.trans (hb2.mono hb.size)⟩
end Go.Proofs.Ytgfnpemonpebpaa
