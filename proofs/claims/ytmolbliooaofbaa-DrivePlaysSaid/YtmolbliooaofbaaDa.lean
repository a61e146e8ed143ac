/-
  THE WALKS of the small functions: has, oneLess, less, copies of rows and of a drive.
-/
import Derived.Test.YtmolbliooaofbaaBx
namespace Go.Proofs.Ytmolbliooaofbaa
set_option linter.unusedVariables false
set_option maxRecDepth 100000
set_option linter.unusedSimpArgs false
open Go.RowKit
namespace Dw
open _root_.Go.Proofs.Ytmolbliooaofbaa.Nm
open Dm (Wr wnth)
theorem has_any (A : Option Addr) (n c : Nat) (A' : Option Addr) (m c' : Nat) (l : Int) (i : Int) (w : World) :
    Calls Try.prog 27 #[.agg (dv A n c A' m c' l), .int .i64 i] w fun e w' => e = .returned (.bool (decide (0 ≤ i ∧ i < (n : Int)))) ∧ Below w.heap.size w w' := by
  have hb := grow w (Obj.cells (dv A n c A' m c' l) 25)
  by_cases h0 : 0 ≤ i
  · by_cases h1 : i < (n : Int)
    · rw [decide_eq_true (show 0 ≤ i ∧ i < (n : Int) from ⟨h0, h1⟩)]
      go_enter Try.func27, Try.ntmps27
      go_wp2_with fail
      go_ret
      exact ⟨rfl, hb⟩
    · rw [decide_eq_false (show ¬ (0 ≤ i ∧ i < (n : Int)) from fun h => h1 h.2)]
      go_enter Try.func27, Try.ntmps27
      go_wp2_with fail
      go_ret
      exact ⟨rfl, hb⟩
  · rw [decide_eq_false (show ¬ (0 ≤ i ∧ i < (n : Int)) from fun h => h0 h.1)]
    go_enter Try.func27, Try.ntmps27
    go_wp2_with fail
    go_ret
    exact ⟨rfl, hb⟩
theorem one_any (l : Int) (w : World) (h0 : -9223372036854775808 ≤ l) (h1 : l ≤ 9223372036854775807) :
    Calls Try.prog 29 #[.int .i64 l] w fun e w' => e = .returned (.int .i64 (Dm.less l)) ∧ w = w' := by
  unfold Dm.less
  by_cases h : 0 < l
  · rw [if_pos h]
    have e := IntWalk.i64_in (l - 1) (by omega)
    go_enter Try.func29, Try.ntmps29
    go_wp2_with fail
    go_ret
    exact ⟨rfl, rfl⟩
  · rw [if_neg h]
    go_enter Try.func29, Try.ntmps29
    go_wp2_with fail
    go_ret
    exact ⟨rfl, rfl⟩
theorem grow2 (w : World) (o p : Obj) : Below w.heap.size w ((w.alloc o).alloc p) := (grow w o).alloc (by simp) _
theorem less_any (A : Option Addr) (n c : Nat) (A' : Option Addr) (m c' : Nat) (l : Int) (w : World) (h0 : -9223372036854775808 ≤ l) (h1 : l ≤ 9223372036854775807) :
    Calls Try.prog 30 #[.agg (dv A n c A' m c' l)] w fun e w' => e = .returned (.agg (dv A n c A' m c' (Dm.less l))) ∧ Below w.heap.size w w' := by
  unfold Dm.less
  by_cases h : 0 < l
  · rw [if_pos h]
    have e := IntWalk.i64_in (l - 1) (by omega)
    go_enter Try.func30, Try.ntmps30
    go_wp2_with fail
    exact bodyPost_ret (v := .agg (dv A n c A' m c' (l - 1))) (by simp [results, Try.results30, go_sem]) rfl ⟨rfl, grow2 _ _ _⟩
  · rw [if_neg h]
    go_enter Try.func30, Try.ntmps30
    go_wp2_with fail
    exact bodyPost_ret (v := .agg (dv A n c A' m c' l)) (by simp [results, Try.results30, go_sem]) rfl ⟨rfl, grow2 _ _ _⟩
theorem clone_any (A : Option Addr) (n cap : Nat) (l : List ByteArray) (w : World) (h : Tz w A n cap l) :
    Calls Try.prog 31 #[.slice A n cap] w fun e w' => (∃ A' c', e = .returned (.slice A' n c') ∧ RS w' w.heap.size A' n c' l) ∧ Below w.heap.size w w' := by
  cases A with
  | none =>
    obtain ⟨rfl, rfl⟩ := h.z rfl
    have : l = [] := List.length_eq_zero_iff.1 h.t.1
    subst this
    have q22 := fun (w : World) (a : Option Addr) (n c n' c' : Nat) => Lib.run_eql_slice_nil w _ _ a n c n' c' Try.underlying22
    go_enter Try.func31, Try.ntmps31
    go_wp2_with fail
    go_ret
    exact ⟨⟨none, 0, rfl, RS.nil _ _⟩, Below.refl _ _⟩
  | some a =>
    have hb := grow w (Obj.cells #[] 9)
    have h1 := h.below hb
    have r0 : RS (w.alloc (Obj.cells #[] 9)) w.heap.size (some ⟨w.heap.size, 0, none⟩) 0 0 [] := RS.empty (Own.new w 9 #[]) (Nat.le_refl _)
    have q22 := fun (w : World) (a : Option Addr) (n c n' c' : Nat) => Lib.run_eql_slice_nil w _ _ a n c n' c' Try.underlying22
    go_enter Try.func31, Try.ntmps31
    go_wp2_with (at_builtin; refine app_all rfl _ _ rfl w.heap.size _ _ rfl r0 _ _ _ _ rfl h1 (by simp) ?_)
    intro A' c' w' hr hb'
    go_wp2_with fail
    go_ret
    exact ⟨⟨A', c', rfl, hr⟩, hb.trans hb'⟩
theorem wclone_any (A : Option Addr) (n cap : Nat) (l : List Wr) (w : World) (h : Pz w A n cap l) :
    Calls Try.prog 40 #[.slice A n cap] w fun e w' => (∃ A' c', e = .returned (.slice A' n c') ∧ RP w' w.heap.size A' n c' l) ∧ Below w.heap.size w w' := by
  cases A with
  | none =>
    obtain ⟨rfl, rfl⟩ := h.z rfl
    have : l = [] := List.length_eq_zero_iff.1 h.len
    subst this
    have q23 := fun (w : World) (a : Option Addr) (n c n' c' : Nat) => Lib.run_eql_slice_nil w _ _ a n c n' c' Try.underlying23
    go_enter Try.func40, Try.ntmps40
    go_wp2_with fail
    go_ret
    exact ⟨⟨none, 0, rfl, rfl, World.ownsRow_nil _ _ _ _⟩, Below.refl _ _⟩
  | some a =>
    have hb := grow w (Obj.cells #[] 47)
    have h1 := h.below hb
    have r0 : RP (w.alloc (Obj.cells #[] 47)) w.heap.size (some ⟨w.heap.size, 0, none⟩) 0 0 [] := RP.empty (Own.new w 47 #[]) (Nat.le_refl _)
    have q23 := fun (w : World) (a : Option Addr) (n c n' c' : Nat) => Lib.run_eql_slice_nil w _ _ a n c n' c' Try.underlying23
    go_enter Try.func40, Try.ntmps40
    go_wp2_with (at_builtin; refine app_writes rfl _ _ rfl w.heap.size _ _ rfl r0 _ _ _ _ rfl h1 (by simp) ?_)
    intro A' c' w' hr hb'
    go_wp2_with fail
    go_ret
    exact ⟨⟨A', c', rfl, hr⟩, hb.trans hb'⟩
/-- a drive with lists of its own -/
theorem fresh_any (A : Option Addr) (n c : Nat) (A' : Option Addr) (m c' : Nat) (d : Dm.Dr) (w : World) (h : Dz w A n c A' m c' d) :
    Calls Try.prog 28 #[.agg (dv A n c A' m c' d.left)] w fun e w' => (∃ A1 c1 A2 c2, e = .returned (.agg (dv A1 n c1 A2 m c2 d.left)) ∧ RS w' w.heap.size A1 n c1 d.B ∧ RP w' w.heap.size A2 m c2 d.P) ∧ Below w.heap.size w w' := by
  have hb2 : ∀ p, Below w.heap.size w ((w.alloc (Obj.cells (dv A n c A' m c' d.left) 25)).alloc p) := fun p => grow2 w _ p
  have h1 := fun p => h.below (hb2 p)
  have o1 := (Own.new w 25 (dv A n c A' m c' d.left)).alloc (Obj.cells (dv none 0 0 none 0 0 0) 25)
  have o2 := Own.new (w.alloc (Obj.cells (dv A n c A' m c' d.left) 25)) 25 (dv none 0 0 none 0 0 0)
  rw [show (w.alloc (Obj.cells (dv A n c A' m c' d.left) 25)).heap.size = w.heap.size + 1 from by simp] at o2
  have hb := hb2 (Obj.cells (dv none 0 0 none 0 0 0) 25)
  have h1 := h.below hb
  generalize d.left = L at *
  have sz : ((w.alloc (Obj.cells (dv A n c A' m c' L) 25)).alloc (Obj.cells (dv none 0 0 none 0 0 0) 25)).heap.size = w.heap.size + 2 := by simp
  go_enter Try.func28, Try.ntmps28
  go_wp2_with fail
  refine (clone_any _ _ _ _ _ h1.b).mono ?_
  rintro e w1 ⟨⟨A1, c1, rfl, hr1⟩, hx1⟩
  rw [sz] at hr1
  have q1 := o1.below hx1
  have q2 := o2.below hx1

  have hb1 := hb.trans (hx1.mono hb.size)
  have d0 := q1.cell 0
  have d1 := q1.cell 1
  have f0 := q1.frozen 0
  simp only [List.getElem?_toArray, List.getElem?_cons_zero, List.getElem?_cons_succ] at d0 d1
  have s1 := St.cellOf w1 w.heap.size 0 (.slice A1 n c1)
  have q1' : Own (w1.setCell ⟨w.heap.size, 0, none⟩ (.slice A1 n c1)) w.heap.size 25 (dv A1 n c1 A' m c' L) := q1.set 0 (.slice A1 n c1)
  have q2' := s1.own q2 (by omega)
  have hr2 := s1.rs hr1 (by omega)
  have hb2 := s1.below hb1 (Nat.le_refl _)
  have p2 := h.p.below hb2
  clear o1 o2 h1 sz hx1 hb
  go_wp2_with fail
  clear d0 d1 f0 s1 q1 q2 hr1 hb1
  generalize w1.setCell ⟨w.heap.size, 0, none⟩ (.slice A1 n c1) = w2 at *
  refine (wclone_any _ _ _ _ _ p2).mono ?_
  rintro e w3 ⟨⟨A2, c2, rfl, hp3⟩, hx3⟩
  have q3 := q1'.below hx3
  have r3 := q2'.below hx3
  have hr3 := hr2.below hx3
  have hb3 := hb2.trans (hx3.mono hb2.size)
  have hp3' := hp3.mono (show w.heap.size + 2 ≤ w2.heap.size from q2'.lt)
  have d1 := q3.cell 1
  have f1 := q3.frozen 1
  simp only [List.getElem?_toArray, List.getElem?_cons_zero, List.getElem?_cons_succ] at d1
  have s4 := St.cellOf w3 w.heap.size 1 (.slice A2 m c2)
  have q4 : Own (w3.setCell ⟨w.heap.size, 1, none⟩ (.slice A2 m c2)) w.heap.size 25 (dv A1 n c1 A2 m c2 L) := q3.set 1 (.slice A2 m c2)
  have r4 := s4.own r3 (by omega)
  have hr4 := s4.rs hr3 (by omega)
  have hp4 := s4.rp hp3' (by omega)
  have hb4 := s4.below hb3 (Nat.le_refl _)
  clear q1' q2' hr2 hb2 p2 hx3
  go_wp2_with (first | (refine ld25 rfl rfl rfl q4 ?_) | (refine sto25 rfl rfl rfl rfl r4 rfl ?_))
  intro w5 r5 s5
  go_wp2_with fail
  have hr5 := s5.rs hr4 (by omega)
  have hp5 := s5.rp hp4 (by omega)
  refine res25 rfl rfl r5 rfl ⟨⟨A1, c1, A2, c2, rfl, hr5.mono (by omega), hp5.mono (by omega)⟩, s5.below hb4 (by omega)⟩
end Dw
end Go.Proofs.Ytmolbliooaofbaa
