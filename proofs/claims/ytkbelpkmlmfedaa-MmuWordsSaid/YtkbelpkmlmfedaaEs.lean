/-
  THE WALKS of the question whether two programs are one, and whether one is more than is looked at.
-/
import Derived.Test.YtkbelpkmlmfedaaEr
import Derived.Test.YtkbelpkmlmfedaaNs
namespace Go.Proofs.Ytkbelpkmlmfedaa
set_option linter.unusedVariables false
set_option maxRecDepth 100000
set_option linter.unusedSimpArgs false
open Go.RowKit
namespace Xe
open _root_.Go.Proofs.Ytkbelpkmlmfedaa.Nm
def greatB (x : Xv) : Bool := decide (600 < x.n) || decide (3000 < x.d.size)
theorem great_any (x : Xv) (w : World) : Calls Try.prog 15 #[.agg x.cs] w fun e w' => e = .returned (.bool (greatB x)) ∧ Below w.heap.size w w' := by
  obtain ⟨k0, k1, k2, k3⟩ := at_new w x 25
  obtain ⟨a, n, c, d, r, e⟩ := x
  dsimp only at *
  unfold greatB
  dsimp only
  by_cases h1 : 600 < n
  · have d1 : (600 : Int) < (n : Int) := by omega
    go_enter Try.func15, Try.ntmps15
    go_wp2_with fail
    go_ret
    exact ⟨by simp [h1], grow _ _⟩
  · have d1 : ¬ (600 : Int) < (n : Int) := by omega
    by_cases h2 : 3000 < d.size
    · have d2 : (3000 : Int) < (d.size : Int) := by omega
      go_enter Try.func15, Try.ntmps15
      go_wp2_with fail
      go_ret
      exact ⟨by simp [h2], grow _ _⟩
    · have d2 : ¬ (3000 : Int) < (d.size : Int) := by omega
      go_enter Try.func15, Try.ntmps15
      go_wp2_with fail
      go_ret
      exact ⟨by simp [h1, h2], grow _ _⟩
/-- the same programs -/
def sameB (x y : Xv) (l m : List Nat) : Bool := decide (x.n = y.n) && decide (x.d = y.d) && decide (x.r = y.r) && decide (x.e = y.e) && decide (l = m)
set_option maxHeartbeats 2000000 in
theorem same_any (x y : Xv) (l m : List Nat) (w : World) (hx : x.Ok) (hy : y.Ok) (hl : Ws w x.a x.n l) (hm : Ws w y.a y.n m) :
    Calls Try.prog 22 #[.agg x.cs, .agg y.cs] w fun e w' => e = .returned (.bool (sameB x y l m)) ∧ Below w.heap.size w w' := by
  have b0 : Below w.heap.size w ((w.alloc (Obj.cells x.cs 25)).alloc (Obj.cells y.cs 25)) := ((Below.refl _ w).alloc (Nat.le_refl _) _).alloc (by simp) _
  have a1 := (at_new w x 25).below (at_lt (at_new w x 25)) (grow _ (Obj.cells y.cs 25))
  have a2 := at_new (w.alloc (Obj.cells x.cs 25)) y 25
  have hL := hl.below b0
  have hM := hm.below b0
  have sz : (w.alloc (Obj.cells x.cs 25)).heap.size = w.heap.size + 1 := by simp
  rw [sz] at a2
  obtain ⟨W, hW⟩ : ∃ W, W = (w.alloc (Obj.cells x.cs 25)).alloc (Obj.cells y.cs 25) := ⟨_, rfl⟩
  obtain ⟨k0, k1, k2, k3⟩ := a1
  obtain ⟨j0, j1, j2, j3⟩ := a2
  have H1 := Lib.hid hl.1
  have H2 := Lib.hid hm.1
  have hn := hx.n
  have hn' := hy.n
  obtain ⟨a, n, c, d, r, e⟩ := x
  obtain ⟨a', n', c', d', r', e'⟩ := y
  dsimp only at *
  unfold sameB
  dsimp only
  clear hx hy hl hm
  by_cases q1 : n = n'
  · by_cases q2 : d = d'
    · by_cases q3 : r = r'
      · by_cases q4 : e = e'
        · subst q1 q2 q3 q4
          have t1 : (d.toList == d.toList) = true := str_yes rfl
          simp only [decide_true, Bool.true_and, Bool.and_self]
          go_enter Try.func22, Try.ntmps22
          go_wp2_with fail
          go_loopw [37] (fun i wr => ∃ k : Nat, k ≤ n ∧ i = .int .i64 k ∧ l.take k = m.take k ∧ Dr ((w.alloc (Obj.cells (Xv.cs ⟨a, n, c, d, r, e⟩) 25)).alloc (Obj.cells (Xv.cs ⟨a', n, c', d, r, e⟩) 25)) wr) (fun i _ => n - (intOf i).toNat)
          case atStart => exact ⟨0, Nat.zero_le _, rfl, rfl, Dr.refl _⟩
          case round =>
            obtain ⟨k, hk, rfl, he, hd⟩ := hrel
            have HE := Lib.hid he
            clear he
            have k0' := (hd.cell _).trans k0
            have j0' := (hd.cell _).trans j0
            clear k1 k2 k3 j1 j2 j3 k0 j0
            by_cases hlt : k < n
            · obtain ⟨b, off, rfl, hc⟩ := hL.2 (by omega)
              obtain ⟨b', off', rfl, hc'⟩ := hM.2 (by omega)
              have c1 := (hd.cell _).trans (hc k hlt)
              have c2 := (hd.cell _).trans (hc' k hlt)
              have b1 : (k : Int) < (n : Int) := by omega
              clear hc hc'
              by_cases hx : wn l k = wn m k
              · have HX := Lib.hid hx
                rw [← hx] at c2
                clear hx
                go_wp2_with fail
                go_quiet (fail)
                go_wp2_with fail
                go_roundw
                case rel =>
                  refine ⟨k + 1, by omega, by go_num, ?_, hd.drewN _⟩
                  have k1 : k < l.length := by have := H1.out; omega
                  have k2 : k < m.length := by have := H2.out; omega
                  rw [take_next k1, take_next k2, HE.out, HX.out]
                case measure => simp [intOf]; omega
              · have t2 : ((wn l k : Int) != (wn m k : Int)) = true := by simp; omega
                have HX := Lib.hid hx
                clear hx
                go_wp2_with fail
                go_quiet (fail)
                go_wp2_with fail
                go_ret
                refine ⟨?_, below_dr b0 (hd.drewN _)⟩
                have : l ≠ m := fun e => HX.out (by rw [e])
                simp [this]
            · obtain rfl : k = n := by omega
              have : l = m := by
                have := HE.out
                rwa [List.take_of_length_le (Nat.le_of_eq H1.out), List.take_of_length_le (Nat.le_of_eq H2.out)] at this
              go_wp2_with fail
              go_ret
              exact ⟨by simp [this], below_dr b0 hd⟩
        · have t4 : ((e : Int) != (e' : Int)) = true := by simp; omega
          subst q1 q2 q3
          have t1 : (d.toList == d.toList) = true := str_yes rfl
          go_enter Try.func22, Try.ntmps22
          go_wp2_with fail
          go_ret
          exact ⟨by simp [q4], b0⟩
      · have t3 : (r != r') = true := by simp; omega
        subst q1 q2
        have t1 : (d.toList == d.toList) = true := str_yes rfl
        go_enter Try.func22, Try.ntmps22
        go_wp2_with fail
        go_ret
        exact ⟨by simp [q3], b0⟩
    · have t2 := str_no q2
      subst q1
      go_enter Try.func22, Try.ntmps22
      go_wp2_with fail
      go_ret
      exact ⟨by simp [q2], b0⟩
  · have t1 : ((n : Int) != (n' : Int)) = true := by simp; omega
    go_enter Try.func22, Try.ntmps22
    go_wp2_with fail
    go_ret
    exact ⟨by simp [q1], b0⟩
end Xe
end Go.Proofs.Ytkbelpkmlmfedaa
