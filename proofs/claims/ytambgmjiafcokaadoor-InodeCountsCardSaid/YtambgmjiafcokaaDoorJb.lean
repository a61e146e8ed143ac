/-
  THE WALKS of the laws of inodes got and put.
-/
import Derived.Test.YtambgmjiafcokaaDoorJa
import Derived.Test.YtambgmjiafcokaaDoorJo
namespace Go.Proofs.YtambgmjiafcokaaDoor
set_option linter.unusedVariables false
set_option maxRecDepth 100000
set_option linter.unusedSimpArgs false
open Go.RowKit
namespace Dw
open _root_.Go.Proofs.YtambgmjiafcokaaDoor.Nm
set_option maxHeartbeats 2000000 in
theorem puts_any (A : Option Addr) (m c : Nat) (l : List ByteArray) (n : Int) (X : Nat → Int) (w : World) (hl : Tz w A m c l) (hL : Lit l m) :
    Calls Tryd.prog 4 #[.slice A m c, .int .i64 n, .agg (ic X)] w fun e w' => e = .returned (.bool true) ∧ Below w.heap.size w w' := by
  have o0 := Nm.Own.new w 27 (ic X)
  have hb0 := grow w (Obj.cells (ic X) 27)
  go_enter Tryd.func4, Tryd.ntmps4
  go_wp2_with fail
  refine (alive_any _).mono ?_
  rintro e w1 ⟨rfl, hx1⟩
  have hb1 := hb0.trans (hx1.mono hb0.size)
  have hz1 := hl.below hb1
  have o1 := o0.below hx1
  clear hx1 hb0
  go_wp2_with fail
  refine (great_any A m c l _ hz1 hL).mono ?_
  rintro e w2 ⟨hg, rfl⟩
  rcases hg with rfl | rfl
  · go_wp2_with fail
    go_ret
    exact ⟨rfl, hb1⟩
  · go_wp2_with (refine ld27 rfl rfl rfl o1 ?_)
    refine (put_iany A m c l n X _ hz1 hL).mono ?_
    rintro e w3 ⟨hp, hx3⟩
    obtain ⟨A3, n3, c3, k3, L3, rfl, ht3, p3⟩ := put_p hp
    have hb3 := hb1.trans (hx3.mono hb1.size)
    have hz3 := hl.below hb3
    have o3 := o1.below hx3
    clear hp hx3 hz1 hb1 o1
    go_wp2_with (refine ld27 rfl rfl rfl o3 ?_)
    refine (rput_iany A m c l n X _ hz3 hL).mono ?_
    rintro e w4 ⟨hp, hx4⟩
    obtain ⟨A4, n4, c4, k4, L4, rfl, ht4, p4⟩ := put_p hp
    obtain ⟨rfl, rfl, rfl⟩ := p3.uniq p4
    have hb4 := hb3.trans (hx4.mono hb3.size)
    have ht5 := ht3.below hx4
    have he : (k4 == k4) = true := by simp
    clear hp hx4 hz3 hb3 o3 ht3 p3 p4
    go_wp2_with fail
    refine (same_any A3 A4 n4 c3 n4 c4 L4 L4 _ ht5.t ht4.t (by have := ht4.m; omega) (by have := ht4.m; omega)).mono ?_
    rintro e w5 ⟨rfl, hd⟩
    have hb5 := below_dr hb4 hd
    go_wp2_with fail
    go_ret
    exact ⟨by simp, hb5⟩
set_option maxHeartbeats 4000000 in
theorem gets_any (A : Option Addr) (m c : Nat) (l : List ByteArray) (n : Int) (w : World) (hl : Tz w A m c l) (hL : Lit l m) :
    Calls Tryd.prog 3 #[.slice A m c, .int .i64 n] w fun e w' => e = .returned (.bool true) ∧ Below w.heap.size w w' := by
  have hb0 := Below.refl w.heap.size w
  go_enter Tryd.func3, Tryd.ntmps3
  go_wp2_with fail
  refine (alive_any _).mono ?_
  rintro e w1 ⟨rfl, hx1⟩
  have hb1 := hb0.trans (hx1.mono hb0.size)
  have hz1 := hl.below hb1
  clear hx1 hb0
  go_wp2_with fail
  refine (great_any A m c l _ hz1 hL).mono ?_
  rintro e w2 ⟨hg, rfl⟩
  rcases hg with rfl | rfl
  · go_wp2_with fail
    go_ret
    exact ⟨rfl, hb1⟩
  · go_wp2_with fail
    refine (iget_any A m c l n _ hz1 hL).mono ?_
    rintro e w3 ⟨hp3, hx3⟩
    obtain ⟨Y, k, rfl⟩ := hp3.form
    have hb3 := hb1.trans (hx3.mono hb1.size)
    have ox := Nm.Own.new w3 27 (ic zX)
    have hb4 := hb3.trans ((grow w3 (Obj.cells (ic zX) 27)).mono hb3.size)
    clear hx3 hz1 hb1
    go_wp2_with (refine sto27 (X := Y) rfl rfl rfl rfl ox ?_)
    intro w5 o5 s5
    have hb5 := s5.below hb4 hb3.size
    have hz5 := hl.below hb5
    clear ox hb4 s5
    go_wp2_with fail
    refine (rget_iany A m c l n _ hz5 hL).mono ?_
    rintro e w6 ⟨hp6, hx6⟩
    obtain rfl := hp3.uniq hp6
    have hb6 := hb5.trans (hx6.mono hb5.size)
    have o6 := o5.below hx6
    have ox := Nm.Own.new w6 27 (ic zX)
    have hg6 := grow w6 (Obj.cells (ic zX) 27)
    have o7 := o6.below hg6
    have hb7 := hb6.trans (hg6.mono hb6.size)
    have hlt := o6.lt
    clear hx6 hz5 hb5 o5 hp6 hp3 o6 hg6
    go_wp2_with (refine sto27 (X := Y) rfl rfl rfl rfl ox ?_)
    intro w8 q8 s8
    have hb8 := s8.below hb7 hb6.size
    have o8 := s8.own o7 (by omega)
    have hz8 := hl.below hb8
    clear ox hb7 s8 o7 hb6
    go_wp2_with fail
    refine (all_any A m c l _ hz8 hL).mono ?_
    rintro e w9 ⟨hp9, hx9⟩
    obtain ⟨A9, n9, c9, L9, rfl, r9, p9⟩ := all_p hp9
    have hb9 := hb8.trans (hx9.mono hb8.size)
    have o9 := o8.below hx9
    have q9 := q8.below hx9
    have hz9 := hl.below hb9
    clear hp9 hx9 hz8 hb8 o8 q8
    go_wp2_with fail
    refine (rall_any A m c l _ hz9 hL).mono ?_
    rintro e w10 ⟨hp10, hx10⟩
    obtain ⟨A10, n10, c10, L10, rfl, r10, p10⟩ := all_p hp10
    obtain rfl := p9.uniq p10
    obtain rfl : n10 = n9 := r10.1.symm.trans r9.1
    have hb10 := hb9.trans (hx10.mono hb9.size)
    have o10 := o9.below hx10
    have q10 := q9.below hx10
    have r11 := r9.below hx10
    have hlen := p10.len
    have hn10 := r10.1
    have hk : (k != k) = false := by simp
    have hnn : ((n10 : Int) != (n10 : Int)) = false := by simp
    clear hp10 hx10 hz9 hb9 o9 q9 r9 p9 p10
    go_wp2_with (first | refine ld27 rfl rfl rfl o10 ?_ | refine ld27 rfl rfl rfl q10 ?_ | refine ne27 (X := Y) (by kernel_rfl) rfl rfl rfl ?_)
    go_loopw [11] (fun i wr => ∃ k : Nat, k ≤ n10 ∧ i = .int .i64 k ∧ Below w.heap.size w wr ∧ Dr w10 wr) (fun i _ => n10 - (intOf i).toNat)
    case atStart => exact ⟨0, Nat.zero_le _, rfl, hb10, Dr.refl _⟩
    case round =>
      clear hb10 o10 q10
      obtain ⟨j, hj, rfl, hb10, hd⟩ := hrel
      by_cases hlt : j < n10
      · obtain ⟨g1, rfl⟩ : ∃ g, A9 = some ⟨g, 0, none⟩ := by
          rcases r11.form with ⟨_, h0, _⟩ | ⟨g, e, _⟩
          · omega
          · exact ⟨g, e⟩
        obtain ⟨g2, rfl⟩ : ∃ g, A10 = some ⟨g, 0, none⟩ := by
          rcases r10.form with ⟨_, h0, _⟩ | ⟨g, e, _⟩
          · omega
          · exact ⟨g, e⟩
        have c1 := (hd.cell _).trans (r11.cell hlt)
        have c2 := (hd.cell _).trans (r10.cell hlt)
        have b1 : (j : Int) < (n10 : Int) := by omega
        have e3 : IntKind.i64.wrap ((j : Int) + 1) = (j : Int) + 1 := IntWalk.i64_in _ (by omega)
        have hvv : (L10.getD j 0 != L10.getD j 0) = false := by simp
        generalize L10.getD j 0 = v at *
        clear hk hnn
        go_wp2_with fail
        go_quiet (fail)
        go_wp2_with fail
        go_roundw
        case rel => exact ⟨j + 1, by omega, by go_num, below_dr hb10 ⟨_, rfl⟩, hd.drewN _⟩
        case measure => simp [intOf]; omega
      · obtain rfl : j = n10 := by omega
        go_wp2_with fail
        go_ret
        exact ⟨rfl, hb10⟩
end Dw
end Go.Proofs.YtambgmjiafcokaaDoor
