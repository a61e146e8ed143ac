/-
  THE WALK of the question whether no two pages have one frame: what a map holds of the frames that were seen.
-/
import Derived.Test.YtkbelpkmlmfedaaMg
import Derived.Laws.PanicsMore
import Derived.Maps.Own
import Derived.Maps.OwnOps
import Derived.Maps.OwnSet
import Derived.Maps.Views
namespace Go.Proofs.Ytkbelpkmlmfedaa
set_option linter.unusedVariables false
set_option maxRecDepth 100000
set_option linter.unusedSimpArgs false
open Go.RowKit
namespace Mo
open _root_.Go.Proofs.Ytkbelpkmlmfedaa.Nm _root_.Go.Proofs.Ytkbelpkmlmfedaa.Xe
theorem idx57 (s : Mm.Sp) (hs : SpOk s) (k : Nat) (hk : k < 16) (w : World) : (Instr.index 57 (.agg (sc s)) (.int .i64 (k : Int))).run Try.prog w = .ok (.agg #[.bool (Mm.pt s k).is, .bool (Mm.pt s k).wr, .int .i64 (Mm.pt s k).f]) w := by
  have hn : 0 ≤ (k : Int) ∧ (k : Int) < 16 := by omega
  simp [Instr.index, run_underlying Try.underlying57, asIntOf, hn, go_sem]
  rw [if_pos hk]
  have e : (sc s).extract (k * 3) (k * 3 + 3) = #[.bool (Mm.pt s k).is, .bool (Mm.pt s k).wr, .int .i64 (Mm.pt s k).f] := by
    obtain ⟨g0, g1, g2⟩ := sl_get s k (by rw [hs.n]; exact hk)
    have hz := sc_size hs
    apply Array.ext_getElem?
    intro i
    rw [Array.getElem?_extract]
    unfold sc
    rcases (by omega : i = 0 ∨ i = 1 ∨ i = 2 ∨ 3 ≤ i) with rfl | rfl | rfl | hi
    · rw [if_pos (by have : (sl s).toArray.size = 48 := hz; omega)]
      simpa using g0
    · rw [if_pos (by have : (sl s).toArray.size = 48 := hz; omega)]
      simpa using g1
    · rw [if_pos (by have : (sl s).toArray.size = 48 := hz; omega)]
      simpa using g2
    · rw [if_neg (by have : (sl s).toArray.size = 48 := hz; omega), Array.getElem?_eq_none (by simpa using hi)]
  rw [e]
theorem keyed3 : Maps.Keyed Try.prog 3 := Maps.int_keyed Try.underlying3
theorem zero4 (w : World) : (zeroValue 4).run Try.prog w = .ok (.bool false) w := by kernel_rfl
/-- the map tells of each number whether it is one of these -/
def Tells (P : Int → Prop) (D : DataW Unit) : Prop := Maps.IsMap D ∧ ∀ x : Int, ∃ b : Bool, D.atKey (.int .i64 x) (.lit (.bool false)) = .lit (.bool b) ∧ (b = true ↔ P x)
theorem tells_nil {P : Int → Prop} (h : ∀ x, ¬ P x) : Tells P (.map []) := ⟨⟨_, rfl⟩, fun x => ⟨false, by simp [DataW.atKey], by simp [h x]⟩⟩
theorem tells_put {P R : Int → Prop} {D : DataW Unit} (h : Tells P D) (y : Int) (hR : ∀ x, R x ↔ (P x ∨ x = y)) : Tells R (D.put (.int .i64 y) (.lit (.bool true))) := by
  refine ⟨?_, fun x => ?_⟩
  · obtain ⟨es, rfl⟩ := h.1
    exact ⟨_, rfl⟩
  · by_cases e : x = y
    · subst e
      exact ⟨true, Maps.atKey_put_same h.1 (by trivial) _ _, by simp [hR]⟩
    · have hne : (Lit.int .i64 x) ≠ Lit.int .i64 y := by simpa using e
      obtain ⟨b, h1, h2⟩ := h.2 x
      exact ⟨b, by rw [Maps.atKey_put_other hne]; exact h1, by rw [h2, hR]; simp [e]⟩
theorem tells_iff {P R : Int → Prop} {D : DataW Unit} (h : Tells P D) (hR : ∀ x, R x ↔ P x) : Tells R D := ⟨h.1, fun x => by
  obtain ⟨b, h1, h2⟩ := h.2 x
  exact ⟨b, h1, by rw [h2, hR]⟩⟩
theorem key64 {f : Int} (h0 : -9223372036854775808 ≤ f) (h1 : f ≤ 9223372036854775807) : keyOf Try.prog 3 (.int .i64 f) = some (.int .i64 f) := Maps.keyOf_int_mk Try.underlying3 (WalkArith.wf_i64 (by omega))
theorem look80 {w : World} {b n : Nat} {P : Int → Prop} {D : DataW Unit} (h : w.ownsMap Try.prog 3 (plainElem Try.prog 4) b n D) (hT : Tells P D) {f : Int} (h0 : -9223372036854775808 ≤ f) (h1 : f ≤ 9223372036854775807) :
    ∃ x : Bool, (Instr.lookup 80 (.map (some b)) (.int .i64 f) false).run Try.prog w = .ok (.bool x) w ∧ (x = true ↔ P f) := by
  obtain ⟨v, ps, hrun, hv⟩ := h.lookup keyed3 Try.underlying80 (zero4 w) (plainElem_bool Try.underlying4 false) (key64 h0 h1)
  obtain ⟨x, e1, e2⟩ := hT.2 f
  rw [e1] at hv
  have : v = .bool x := by
    unfold plainElem at hv
    rw [Try.underlying4] at hv
    cases v <;> simp at hv
    simp [hv]
  exact ⟨x, by rw [hrun, this], e2⟩
/-- the frames of the first pages -/
def Seen (s : Mm.Sp) (k : Nat) (x : Int) : Prop := ∃ i, i < k ∧ (Mm.pt s i).is = true ∧ (Mm.pt s i).f = x
theorem seen_skip {s : Mm.Sp} {k : Nat} (h : (Mm.pt s k).is = false) (x : Int) : Seen s (k + 1) x ↔ Seen s k x := by
  constructor
  · rintro ⟨i, h1, h2, h3⟩
    by_cases e : i = k
    · subst e; rw [h] at h2; cases h2
    · exact ⟨i, by omega, h2, h3⟩
  · rintro ⟨i, h1, h2, h3⟩
    exact ⟨i, by omega, h2, h3⟩
theorem seen_more {s : Mm.Sp} {k : Nat} (h : (Mm.pt s k).is = true) (x : Int) : Seen s (k + 1) x ↔ (Seen s k x ∨ x = (Mm.pt s k).f) := by
  constructor
  · rintro ⟨i, h1, h2, h3⟩
    by_cases e : i = k
    · subst e; exact .inr h3.symm
    · exact .inl ⟨i, by omega, h2, h3⟩
  · rintro (⟨i, h1, h2, h3⟩ | h3)
    · exact ⟨i, by omega, h2, h3⟩
    · exact ⟨k, by omega, h, h3.symm⟩
/-- apart so far -/
def Ap (s : Mm.Sp) (k : Nat) : Prop := ∀ i j, i < j → j < k → (Mm.pt s i).is = true → (Mm.pt s j).is = true → (Mm.pt s i).f ≠ (Mm.pt s j).f
theorem ap_more {s : Mm.Sp} {k : Nat} (h : Ap s k) (hk : (Mm.pt s k).is = true → ¬ Seen s k (Mm.pt s k).f) : Ap s (k + 1) := by
  intro i j h1 h2 h3 h4 h5
  by_cases e : j = k
  · subst e
    exact hk h4 ⟨i, h1, h3, h5⟩
  · exact h i j h1 (by omega) h3 h4 h5
theorem ap_end {s : Mm.Sp} (hs : SpOk s) (h : Ap s 16) : Mm.apart s := by
  intro i j h1 h2 h3
  by_cases e : j < 16
  · exact h i j h1 e h2 h3
  · exfalso
    unfold Mm.pt at h3
    rw [List.getD_eq_getElem?_getD, List.getElem?_eq_none (by rw [hs.n]; omega)] at h3
    cases h3
def ApIs (s : Mm.Sp) (e : Ending) : Prop := ∃ b : Bool, e = .returned (.bool b) ∧ (b = true → Mm.apart s)
set_option maxHeartbeats 1000000 in
theorem apart_any (s : Mm.Sp) (hs : SpOk s) (w : World) : Calls Try.prog 42 #[.agg (sc s)] w fun e w' => ApIs s e ∧ Below w.heap.size w w' := by
  have hmm := @run_makeMap Try.prog
  have hb := grow w (Obj.cells (sc s) 57)
  have ho := (Own.new w 57 (sc s)).alloc (.map #[] 0)
  have hM := World.ownsMap_made (w.alloc (Obj.cells (sc s) 57)) Try.prog 3 (plainElem (H := Unit) Try.prog 4)
  rw [show (w.alloc (Obj.cells (sc s) 57)).heap.size = w.heap.size + 1 from by simp] at hM
  have hb2 := hb.alloc (o := .map #[] 0) hb.size
  go_enter Try.func42, Try.ntmps42
  go_wp2_with (refine ls rfl rfl rfl hs ho ?_)
  clear hmm ho hb
  go_loopw [5, 8] (fun _ i wr => ∃ (k : Nat) (D : DataW Unit), k ≤ 16 ∧ i = .int .i64 k ∧ wr.ownsMap Try.prog 3 (plainElem Try.prog 4) (w.heap.size + 1) k D ∧ Tells (Seen s k) D ∧ Ap s k ∧ Below w.heap.size w wr) (fun _ i _ => 16 - (intOf i).toNat)
  case atStart => exact ⟨0, _, Nat.zero_le _, rfl, hM, tells_nil (fun x h => by obtain ⟨i, h, _⟩ := h; omega), (fun i j h1 h2 => by omega), hb2⟩
  case round =>
    clear hM hb2
    obtain ⟨k, D, hk, rfl, hM, hT, hA, hb⟩ := hrel
    by_cases hlt : k < 16
    · have hix := idx57 s hs k hlt
      obtain ⟨x, hlk, hx⟩ := look80 (hM.alloc (Obj.cells #[.bool (Mm.pt s k).is, .bool (Mm.pt s k).wr, .int .i64 (Mm.pt s k).f] 55)) hT (hs.lo k) (hs.hi k)
      have hM2 := hM.alloc (Obj.cells #[.bool (Mm.pt s k).is, .bool (Mm.pt s k).wr, .int .i64 (Mm.pt s k).f] 55)
      have hb2 := hb.trans ((grow wr (Obj.cells #[.bool (Mm.pt s k).is, .bool (Mm.pt s k).wr, .int .i64 (Mm.pt s k).f] 55)).mono hb.size)
      have hS0 := seen_skip (s := s) (k := k)
      have hS1 := seen_more (s := s) (k := k)
      have hA1 := ap_more hA
      have hkey := key64 (hs.lo k) (hs.hi k)
      generalize Mm.pt s k = p at *
      obtain ⟨is, wt, f⟩ := p
      dsimp only at *
      have HT := Lib.hid hT
      have HA1 := Lib.hid hA1
      have HX := Lib.hid hx
      clear hT hA hA1 hx hM hb
      cases is
      · have HS := Lib.hid (hS0 rfl)
        clear hS0 hS1 hlk hkey
        go_wp2_with fail
        go_roundw
        case rel => exact ⟨k + 1, D, by omega, by go_num, hM2.mono (by omega), tells_iff HT.out HS.out, HA1.out (fun h => by cases h), hb2⟩
        case measure => simp [intOf]; omega
      · cases x
        · have HS := Lib.hid (hS1 rfl)
          have HN := Lib.hid (show ¬ Seen s k f from fun h => by have := HX.out.2 h; cases this)
          clear hS0 hS1
          go_wp2_with (first
            | (at_mapUpdate; refine wpList_mapUpdate_own _ rfl _ _ _ 80 rfl 3 4 keyed3 Try.underlying80 _ (w.heap.size + 1) _ _ rfl hM2 (by unfold maxLen; omega) _ _ _ rfl rfl hkey _ [] (plainElem_bool Try.underlying4 true) ?_; intro w5 hown1 hgrow1))
          go_roundw
          case rel => exact ⟨k + 1, _, by omega, by go_num, hown1, tells_put HT.out f HS.out, HA1.out (fun _ => HN.out), hb2.grown hgrow1 hb2.size (fun q hq => by cases hq; omega)⟩
          case measure => simp [intOf]; omega
        · clear hS0 hS1
          go_wp2_with fail
          go_ret
          exact ⟨⟨false, rfl, fun h => by cases h⟩, hb2⟩
    · obtain rfl : k = 16 := by omega
      go_wp2_with fail
      go_ret
      exact ⟨⟨true, rfl, fun _ => ap_end hs hA⟩, hb⟩
end Mo
end Go.Proofs.Ytkbelpkmlmfedaa
