/-
  THE WALK of the law of what was put: it is got, no other inode is another one, no other block.
-/
import Derived.Test.YtambgmjiafcokaaDoorJb
namespace Go.Proofs.YtambgmjiafcokaaDoor
set_option linter.unusedVariables false
set_option maxRecDepth 100000
set_option linter.unusedSimpArgs false
open Go.RowKit
namespace Dw
open _root_.Go.Proofs.YtambgmjiafcokaaDoor.Nm
theorem get_other {l : List ByteArray} {b y j : Nat} {n : Int} {X : Nat → Int} {e : Ending} (hv : Vol l b y) (h1 : 1 ≤ j) (h2 : j ≤ y) (hn : n ≠ (j : Int)) (h : GetIs (putL l j X) n e) : GetIs l n e := by
  have hv' := put_vol hv h1 h2 X
  rcases h with ⟨hx, rfl⟩ | ⟨b', y', hx, hr, rfl⟩ | ⟨b', y', k, hx, rfl, k1, k2, rfl⟩
  · exact absurd hv' (hx _ _)
  · obtain ⟨rfl, rfl⟩ := hv'.uniq hx
    exact .inr (.inl ⟨b, y, hv, hr, rfl⟩)
  · obtain ⟨rfl, rfl⟩ := hv'.uniq hx
    refine .inr (.inr ⟨b, y, k, hv, rfl, k1, k2, ?_⟩)
    rw [ic_congr (X := getX (putL l j X) k) (Y := getX l k) fun q hq => get_put_ne hv h1 h2 X k1 (by omega) hq]
theorem ic_int {X : Nat → Int} {i : Nat} {v : Value} (h : (ic X)[i]? = some v) : ∃ z, v = .int .i64 z := by
  have hv := Array.mem_of_getElem? h
  simp [ic] at hv
  rcases hv with rfl | rfl | rfl | rfl | rfl | rfl | rfl | rfl | rfl | rfl | rfl | rfl <;> exact ⟨_, rfl⟩
theorem _root_.Go.Proofs.YtambgmjiafcokaaDoor.Nm.Tz.st {w w' : World} {g n c : Nat} {A : Option Addr} {l : List ByteArray} {X : Nat → Int} (h : Tz w A n c l) (hs : St g w w') (ho : Nm.Own w g 27 (ic X)) : Tz w' A n c l := by
  refine ⟨⟨h.t.1, fun h0 => ?_⟩, h.z, h.m⟩
  obtain ⟨b, off, e, hc⟩ := h.t.2 h0
  refine ⟨b, off, e, fun i hi => ?_⟩
  have hci := hc i hi
  have hne : b ≠ g := fun e => by
    subst e
    rw [ho.cell] at hci
    obtain ⟨z, hz⟩ := ic_int hci
    cases hz
  exact (cell_eq (hs.block b hne) _).trans hci
set_option maxHeartbeats 8000000 in
theorem back_any (A : Option Addr) (m c : Nat) (l : List ByteArray) (n other : Int) (X : Nat → Int) (w : World) (hl : Tz w A m c l) (hL : Lit l m) :
    Calls Tryd.prog 6 #[.slice A m c, .int .i64 n, .int .i64 other, .agg (ic X)] w fun e w' => e = .returned (.bool true) ∧ Below w.heap.size w w' := by
  have o0 := Nm.Own.new w 27 (ic X)
  have hb0 := grow w (Obj.cells (ic X) 27)
  go_enter Tryd.func6, Tryd.ntmps6
  go_wp2_with fail
  refine (alive_any _).mono ?_
  rintro e w1 ⟨rfl, hx1⟩
  have hb1 := hb0.trans (hx1.mono hb0.size)
  have hz1 := hl.below hb1
  have o1 := o0.below hx1
  clear hx1 hb0
  go_wp2_with fail
  refine (great_any A m c l _ hz1 hL).mono ?_
  rintro e w2 ⟨hg, rfl⟩
  rcases hg with rfl | rfl
  · go_wp2_with fail
    go_ret
    exact ⟨rfl, hb1⟩
  · go_wp2_with (refine ld27 rfl rfl rfl o1 ?_)
    refine (put_iany A m c l n X _ hz1 hL).mono ?_
    rintro e w3 ⟨hp, hx3⟩
    obtain ⟨A3, n3, c3, k3, L3, rfl, ht3, p3⟩ := put_p hp
    have hb3 := hb1.trans (hx3.mono hb1.size)
    have o3 := o1.below hx3
    clear hp hx3 hz1 hb1 o1
    rcases p3 with ⟨_, rfl, rfl, rfl⟩ | ⟨_, _, _, _, rfl, rfl, rfl⟩ | ⟨_, _, _, _, _, _, _, _, rfl, rfl, rfl⟩ | ⟨b, y, j, hv, rfl, h1, h2, hf, rfl, rfl, rfl⟩
    · go_wp2_with fail
      go_ret
      exact ⟨rfl, hb3⟩
    · go_wp2_with fail
      go_ret
      exact ⟨rfl, hb3⟩
    · go_wp2_with fail
      go_ret
      exact ⟨rfl, hb3⟩
    · have hv' := put_vol hv h1 h2 X
      have hlm : l.length = m := hl.t.1
      obtain rfl : m = n3 := hlm.symm.trans hv.len
      have hgx : ic (getX (putL l j X) j) = ic X := ic_congr fun q hq => get_put hv h1 h2 hf hq
      have hlt := hv.lt
      go_wp2_with fail
      refine (get_vol ht3 hv' h1 h2 (j : Int) rfl).mono ?_
      rintro e w4 ⟨rfl, hx4⟩
      rw [hgx]
      have hb4 := hb3.trans (hx4.mono hb3.size)
      have o4 := o3.below hx4
      have ht4 := ht3.below hx4
      have ox := Nm.Own.new w4 27 (ic zX)
      have hg4 := grow w4 (Obj.cells (ic zX) 27)
      have o5 := o4.below hg4
      have hb5 := hb4.trans (hg4.mono hb4.size)
      have ht5 := ht4.below hg4
      have hlt4 := o4.lt
      clear hx4 hb3 o3 ht3 o4 ht4 hg4
      go_wp2_with (refine sto27 (X := X) rfl rfl rfl rfl ox ?_)
      intro w6 q6 s6
      have hb6 := s6.below hb5 hb4.size
      have o6 := s6.own o5 (by omega)
      have ht6 := ht5.st s6 ox
      clear ox hb5 o5 ht5 hb4 s6
      have hmm : ((m : Int) != (m : Int)) = false := by simp
      go_wp2_with (first | refine ld27w (by kernel_rfl) rfl rfl q6 ?_ | refine ld27w (by kernel_rfl) rfl rfl o6 ?_ | refine ne27 (X := X) (by kernel_rfl) rfl rfl rfl ?_)
      go_loopw [13, 14] (fun s i wr => ∃ (k t : Nat), k ≤ m ∧ i = .int .i64 k ∧ s = .int .i64 t ∧ t ≤ 1 ∧ (k ≤ bk j → t = 0) ∧ Below w.heap.size w wr ∧ Dr w6 wr) (fun _ i _ => m - (intOf i).toNat)
      case atStart => exact ⟨0, 0, Nat.zero_le _, rfl, rfl, Nat.zero_le _, fun _ => rfl, hb6, Dr.refl _⟩
      case round =>
        clear hb6 o6 q6
        obtain ⟨k, t, hk, rfl, rfl, ht1, ht0, hb6, hd⟩ := hrel
        have hzz := hl.below hb6
        have htt := ht6.dr hd
        by_cases hlk : k < m
        · obtain ⟨b1, off1, rfl, hc1⟩ := hzz.t.2 (by omega)
          obtain ⟨b2, off2, rfl, hc2⟩ := htt.t.2 (by omega)
          have c1 := hc1 k hlk
          have c2 := hc2 k hlk
          have k0 : (k : Int) < (m : Int) := by omega
          have e3 : IntKind.i64.wrap ((k : Int) + 1) = (k : Int) + 1 := IntWalk.i64_in _ (by omega)
          clear hc1 hc2 hzz htt hmm hgx
          by_cases hx : nth l k = nth (putL l j X) k
          · have t2 := str_yes hx
            have HX := Lib.hid hx
            clear hx
            go_wp2_with fail
            go_quiet (fail)
            go_wp2_with fail
            go_roundw
            case rel => exact ⟨k + 1, t, by omega, by go_num, rfl, ht1, (fun h => ht0 (by omega)), below_dr hb6 ⟨_, rfl⟩, hd.drewN _⟩
            case measure => simp [intOf]; omega
          · have hbk : bk j = k := Classical.byContradiction fun h => hx (put_nth_ne X h).symm
            have t2 := str_no hx
            have HX := Lib.hid hx
            have ht00 := ht0 (by omega)
            subst ht00
            clear hx ht0
            go_wp2_with fail
            go_quiet (fail)
            go_wp2_with fail
            go_roundw
            case rel => exact ⟨k + 1, 1, by omega, by go_num, rfl, by omega, (fun h => by omega), below_dr hb6 ⟨_, rfl⟩, hd.drewN _⟩
            case measure => simp [intOf]; omega
        · obtain rfl : k = m := by omega
          have ht1' : (t : Int) ≤ 1 := by omega
          clear hmm hgx ht0
          go_wp2_with fail
          refine (iget_any A k c l other _ hzz hL).mono ?_
          rintro e w7 ⟨hp7, hx7⟩
          obtain ⟨Y, k7, rfl⟩ := hp7.form
          have hb7 := hb6.trans (hx7.mono hb6.size)
          have htt7 := htt.below hx7
          have ox := Nm.Own.new w7 27 (ic zX)
          have hg7 := grow w7 (Obj.cells (ic zX) 27)
          have hb8 := hb7.trans (hg7.mono hb7.size)
          have htt8 := htt7.below hg7
          clear hx7 hb6 htt htt7 hg7 hd hzz
          go_wp2_with (refine sto27 (X := Y) rfl rfl rfl rfl ox ?_)
          intro w9 o9 s9
          have hb9 := s9.below hb8 hb7.size
          have htt9 := htt8.st s9 ox
          clear ox hb8 htt8 hb7 s9
          go_wp2_with fail
          refine (iget_any A3 k c3 _ other _ htt9 (fun i hi => hv'.blk.lit i (by have := hv'.len; omega))).mono ?_
          rintro e w10 ⟨hp10, hx10⟩
          obtain ⟨Y2, k10, rfl⟩ := hp10.form
          have hb10 := hb9.trans (hx10.mono hb9.size)
          have o10 := o9.below hx10
          have ox := Nm.Own.new w10 27 (ic zX)
          have hg10 := grow w10 (Obj.cells (ic zX) 27)
          have hb11 := hb10.trans (hg10.mono hb10.size)
          have o11 := o10.below hg10
          have hlt10 := o10.lt
          clear hx10 hb9 o9 hg10 o10 htt9
          go_wp2_with (refine sto27 (X := Y2) rfl rfl rfl rfl ox ?_)
          intro w12 q12 s12
          have hb12 := s12.below hb11 hb10.size
          have o12 := s12.own o11 (by omega)
          clear ox hb11 o11 hb10 s12
          by_cases hoj : other = (j : Int)
          · have hoj1 : (other == (j : Int)) = true := by simp [hoj]
            have HOJ := Lib.hid hoj
            clear hoj
            go_wp2_with fail
            go_ret
            exact ⟨rfl, hb12⟩
          · have hoj1 : (other == (j : Int)) = false := by simp [hoj]
            have hee := hp7.uniq (get_other hv h1 h2 hoj hp10)
            injection hee with hee
            injection hee with hee
            have hcs : ic Y2 = ic Y := by
              have := congrArg (fun a : Array Value => a[0]?) hee
              simp at this
              exact this
            have hk10 : k10 = k7 := by
              have := congrArg (fun a : Array Value => a[1]?) hee
              simp at this
              exact this
            subst hk10
            rw [hcs] at q12
            have hkk : (k10 == k10) = true := by simp
            clear hee hcs hoj hp7 hp10
            go_wp2_with (first | refine ld27w (by kernel_rfl) rfl rfl q12 ?_ | refine ld27w (by kernel_rfl) rfl rfl o12 ?_ | refine eq27 (X := Y) (by kernel_rfl) rfl rfl rfl ?_)
            go_ret
            exact ⟨rfl, hb12⟩
end Dw
end Go.Proofs.YtambgmjiafcokaaDoor
