/-
  THE WALK of Same: of two drives that read alike.
-/
import Derived.Test.YtmolbliooaofbaaDc
namespace Go.Proofs.Ytmolbliooaofbaa
set_option linter.unusedVariables false
set_option maxRecDepth 100000
set_option linter.unusedSimpArgs false
open Go.RowKit
namespace Dw
open _root_.Go.Proofs.Ytmolbliooaofbaa.Nm
open Dm (Wr wnth)
/-- two drives' boxes -/
structure B2 (w : World) (cs ds : Array Value) (wr : World) : Prop where
  o : Nm.Own wr w.heap.size 25 cs
  q : Nm.Own wr (w.heap.size + 1) 25 ds
  b : Below w.heap.size w wr
theorem B2.new (w : World) (cs ds : Array Value) : B2 w cs ds ((w.alloc (Obj.cells cs 25)).alloc (Obj.cells ds 25)) := by
  refine ⟨(Nm.Own.new w 25 cs).alloc _, ?_, grow2 w _ _⟩
  have := Nm.Own.new (w.alloc (Obj.cells cs 25)) 25 ds
  rwa [World.size_alloc] at this
theorem B2.lt {w wr : World} {cs ds : Array Value} (h : B2 w cs ds wr) : w.heap.size + 2 ≤ wr.heap.size := h.q.lt
theorem B2.below {w wr w1 : World} {cs ds : Array Value} (h : B2 w cs ds wr) (hx : Below wr.heap.size wr w1) : B2 w cs ds w1 := ⟨h.o.below hx, h.q.below hx, h.b.trans (hx.mono h.b.size)⟩
theorem B2.drewN {w wr : World} {cs ds : Array Value} (h : B2 w cs ds wr) (k : Nat) : B2 w cs ds (wr.drewN k) := ⟨h.o, h.q, below_dr h.b ⟨k, rfl⟩⟩
set_option maxHeartbeats 1000000 in
theorem same_any (A : Option Addr) (n c : Nat) (A' : Option Addr) (m c' : Nat) (E : Option Addr) (e : Nat) (E' : Option Addr) (e' : Nat) (d : Dm.Dr) (w : World) (h : Dz w A n c A' m c' d) (k : Dz w E n e E' m e' d) :
    Calls Try.prog 15 #[.agg (dv A n c A' m c' d.left), .agg (dv E n e E' m e' d.left)] w fun e w' => e = .returned (.bool true) ∧ Below w.heap.size w w' := by
  have ob := B2.new w (dv A n c A' m c' d.left) (dv E n e E' m e' d.left)
  have H0 := Lib.hid (And.intro h k)
  have hm := h.b.m
  have hpm := h.p.m
  have hn : d.B.length = n := h.b.t.1
  have hpn : d.P.length = m := h.p.len
  generalize d.left = L at *
  have t0 : ((n : Int) != (n : Int)) = false := by simp
  have t1 : ((m : Int) != (m : Int)) = false := by simp
  have t2 : (L != L) = false := by simp
  have d0 := ob.o.cell 0
  have d1 := ob.o.cell 1
  have d2 := ob.o.cell 2
  have f0 := ob.q.cell 0
  have f1 := ob.q.cell 1
  have f2 := ob.q.cell 2
  simp only [List.getElem?_toArray, List.getElem?_cons_zero, List.getElem?_cons_succ] at d0 d1 d2 f0 f1 f2
  clear h k
  go_enter Try.func15, Try.ntmps15
  go_wp2_with fail
  clear d0 d1 d2 f0 f1 f2
  go_loopw [5] (fun i wr => ∃ k : Nat, k ≤ n ∧ i = .int .i64 k ∧ B2 w (dv A n c A' m c' L) (dv E n e E' m e' L) wr) (fun i _ => n - (intOf i).toNat)
  case atStart => exact ⟨0, Nat.zero_le _, rfl, ob⟩
  case round =>
    obtain ⟨k, hk, rfl, ob2⟩ := hrel
    have d0 := ob2.o.cell 0
    have f0 := ob2.q.cell 0
    simp only [List.getElem?_toArray, List.getElem?_cons_zero, List.getElem?_cons_succ] at d0 f0
    by_cases hlt : k < n
    · obtain ⟨b, off, rfl, hc⟩ := (H0.out.1.b.below ob2.b).t.2 (by omega)
      obtain ⟨b', off', rfl, hc'⟩ := (H0.out.2.b.below ob2.b).t.2 (by omega)
      have c1 := hc k hlt
      have c2 := hc' k hlt
      have hlt' : (k : Int) < (n : Int) := by omega
      clear hc hc'
      generalize nth d.B k = T at *
      go_wp2_with fail
      go_quiet (fail)
      go_wp2_with fail
      go_roundw
      case rel => exact ⟨k + 1, by omega, by go_num, ob2.drewN _⟩
      case measure => simp [intOf]; omega
    · obtain rfl : k = n := by omega
      clear ob
      go_wp2_with fail
      clear d0 f0
      go_loopw [6] (fun i wr => ∃ q : Nat, q ≤ m ∧ i = .int .i64 q ∧ B2 w (dv A k c A' m c' L) (dv E k e E' m e' L) wr) (fun i _ => m - (intOf i).toNat)
      case atStart => exact ⟨0, Nat.zero_le _, rfl, ob2⟩
      case round =>
        obtain ⟨q, hq, rfl, ob3⟩ := hrel
        have d1 := ob3.o.cell 1
        have f1 := ob3.q.cell 1
        simp only [List.getElem?_toArray, List.getElem?_cons_zero, List.getElem?_cons_succ] at d1 f1
        by_cases hlq : q < m
        · obtain ⟨b, off, rfl, hc⟩ := (H0.out.1.p.below ob3.b).c (by omega)
          obtain ⟨b', off', rfl, hc'⟩ := (H0.out.2.p.below ob3.b).c (by omega)
          obtain ⟨c1, c2⟩ := hc q (by omega)
          obtain ⟨c3, c4⟩ := hc' q (by omega)
          have hlq' : (q : Int) < (m : Int) := by omega
          clear hc hc'
          generalize wnth d.P q = x at *
          obtain ⟨xi, xs⟩ := x
          dsimp only at *
          go_wp2_with fail
          go_quiet (fail)
          go_wp2_with fail
          go_roundw
          case rel => exact ⟨q + 1, by omega, by go_num, ob3.drewN _⟩
          case measure => simp [intOf]; omega
        · obtain rfl : q = m := by omega
          go_wp2_with fail
          go_ret
          exact ⟨rfl, ob3.b⟩
end Dw
end Go.Proofs.Ytmolbliooaofbaa
