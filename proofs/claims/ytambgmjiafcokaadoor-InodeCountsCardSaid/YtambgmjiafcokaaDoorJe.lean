/-
  THE WALK of the law of an inode put as it was, and of two put in either order.
-/
import Derived.Test.YtambgmjiafcokaaDoorJd
namespace Go.Proofs.YtambgmjiafcokaaDoor
set_option linter.unusedVariables false
set_option maxRecDepth 100000
set_option linter.unusedSimpArgs false
open Go.RowKit
namespace Dw
open _root_.Go.Proofs.YtambgmjiafcokaaDoor.Nm
theorem _root_.Go.Proofs.YtambgmjiafcokaaDoor.Nm.Own.drr {w w' : World} {g : Nat} {t : TypeId} {cs : Array Value} (h : Nm.Own w g t cs) (hd : Dr w w') : Nm.Own w' g t cs := by
  obtain ⟨k, rfl⟩ := hd
  exact h
theorem PtP.zero {l : List ByteArray} {n : Int} {X : Nat → Int} {c : Nat} {L : List ByteArray} (h : PtP l n X c 0 L) : ∃ b m j : Nat, Vol l b m ∧ n = ((j : Nat) : Int) ∧ 1 ≤ j ∧ j ≤ m ∧ Ni.Fit X ∧ c = b ∧ L = putL l j X := by
  rcases h with ⟨hn, _, h, _⟩ | ⟨b, m, hv, hx, _, h, _⟩ | ⟨b, m, j, hv, hj, h1, h2, h3, _, h, _⟩ | ⟨b, m, j, hv, hj, h1, h2, h3, h4, _, h5⟩
  · cases h
  · cases h
  · cases h
  · exact ⟨b, m, j, hv, hj, h1, h2, h3, h4, h5⟩
set_option maxHeartbeats 8000000 in
theorem twice_any (A : Option Addr) (m c : Nat) (l : List ByteArray) (n q : Int) (X Y : Nat → Int) (w : World) (hl : Tz w A m c l) (hL : Lit l m) :
    Calls Tryd.prog 7 #[.slice A m c, .int .i64 n, .int .i64 q, .agg (ic X), .agg (ic Y)] w fun e w' => e = .returned (.bool true) ∧ Below w.heap.size w w' := by
  have oX := (Nm.Own.new w 27 (ic X)).alloc (Obj.cells (ic Y) 27)
  have oY := Nm.Own.new (w.alloc (Obj.cells (ic X) 27)) 27 (ic Y)
  rw [World.size_alloc] at oY
  have hb := grow2 w (Obj.cells (ic X) 27) (Obj.cells (ic Y) 27)
  have hz := hl.below hb
  go_enter Tryd.func7, Tryd.ntmps7
  go_wp2_with fail
  refine (alive_any _).mono ?_
  rintro e w1 ⟨rfl, hx⟩
  replace oX := oX.below hx
  replace oY := oY.below hx
  replace hz := hz.below hx
  replace hb := hb.trans (hx.mono hb.size)
  clear hx
  go_wp2_with fail
  refine (great_any A m c l _ hz hL).mono ?_
  rintro e w2 ⟨hg, rfl⟩
  rcases hg with rfl | rfl
  · go_wp2_with fail
    go_ret
    exact ⟨rfl, hb⟩
  by_cases hnq : n = q
  · have hnq1 : (n == q) = true := by simp [hnq]
    clear hnq
    go_wp2_with fail
    go_ret
    exact ⟨rfl, hb⟩
  have hnq1 : (n == q) = false := by simp [hnq]
  go_wp2_with (refine ld27 rfl rfl rfl oX ?_)
  refine (put_iany A m c l n X _ hz hL).mono ?_
  rintro e w3 ⟨hp, hx⟩
  obtain ⟨A3, n3, c3, k3, L3, rfl, ht3, p3⟩ := put_p hp
  clear hp
  replace oX := oX.below hx
  replace oY := oY.below hx
  replace hz := hz.below hx
  replace hb := hb.trans (hx.mono hb.size)
  clear hx
  go_wp2_with (refine ld27 rfl rfl rfl oY ?_)
  refine (put_iany A m c l q Y _ hz hL).mono ?_
  rintro e w4 ⟨hp, hx⟩
  obtain ⟨A4, n4, c4, k4, L4, rfl, ht4, p4⟩ := put_p hp
  clear hp
  replace oX := oX.below hx
  replace oY := oY.below hx
  replace hz := hz.below hx
  replace ht3 := ht3.below hx
  replace hb := hb.trans (hx.mono hb.size)
  clear hx
  by_cases h3 : k3 = 0
  · by_cases h4 : k4 = 0
    · subst h3
      subst h4
      obtain ⟨b, y, j, hv, rfl, hj1, hj2, hfX, rfl, rfl⟩ := p3.zero
      obtain ⟨b', y', i, hv', rfl, hi1, hi2, hfY, rfl, rfl⟩ := p4.zero
      obtain ⟨rfl, rfl⟩ := hv.uniq hv'
      have hji : j ≠ i := fun e => hnq (by rw [e])
      have hlm : l.length = m := hl.t.1
      obtain rfl : m = n3 := hlm.symm.trans hv.len
      have hv3 := put_vol hv hj1 hj2 X
      have hv4 := put_vol hv hi1 hi2 Y
      have hpp := put_put hv hj1 hj2 hi1 hi2 hji X Y
      have hpg : putL l j (getX l j) = l := put_get hv hj1 hj2 fun q hq => rfl
      have hlt := hv.lt
      clear p3 p4 hnq hl hv'
      go_wp2_with (refine ld27 rfl rfl rfl oY ?_)
      refine (put_volc ht3 hv3 hi1 hi2 (i : Int) rfl hfY).mono ?_
      rintro e w5 ⟨hp, hx⟩
      obtain ⟨A5, c5, rfl, hr5⟩ := hp
      have ht5 := Tz.of hr5 (by omega)
      clear hr5
      replace oX := oX.below hx
      replace oY := oY.below hx
      replace hz := hz.below hx
      replace ht3 := ht3.below hx
      replace ht4 := ht4.below hx
      replace hb := hb.trans (hx.mono hb.size)
      clear hx
      clear ht3
      go_wp2_with (refine ld27 rfl rfl rfl oX ?_)
      refine (put_volc ht4 hv4 hj1 hj2 (j : Int) rfl hfX).mono ?_
      rintro e w6 ⟨hp, hx⟩
      obtain ⟨A6, c6, rfl, hr6⟩ := hp
      have ht6 := Tz.of hr6 (by omega)
      rw [← hpp] at ht6
      clear hr6
      replace oX := oX.below hx
      replace oY := oY.below hx
      replace hz := hz.below hx
      replace ht4 := ht4.below hx
      replace ht5 := ht5.below hx
      replace hb := hb.trans (hx.mono hb.size)
      clear hx
      clear ht4 oX oY
      go_wp2_with fail
      refine (get_vol hz hv hj1 hj2 (j : Int) rfl).mono ?_
      rintro e w7 ⟨rfl, hx⟩
      replace hz := hz.below hx
      replace ht5 := ht5.below hx
      replace ht6 := ht6.below hx
      replace hb := hb.trans (hx.mono hb.size)
      clear hx
      have hsz := hb.size
      have ox := Nm.Own.new w7 27 (ic zX)
      have hg := grow w7 (Obj.cells (ic zX) 27)
      replace hz := hz.below hg
      replace ht5 := ht5.below hg
      replace ht6 := ht6.below hg
      replace hb := hb.trans (hg.mono hb.size)
      clear hg
      go_wp2_with (refine sto27 (X := getX l j) rfl rfl rfl rfl ox ?_)
      intro w8 oZ hs
      replace hz := hz.st hs ox
      replace ht5 := ht5.st hs ox
      replace ht6 := ht6.st hs ox
      replace hb := hs.below hb hsz
      clear hs hsz ox
      go_wp2_with (refine ld27 rfl rfl rfl oZ ?_)
      refine (put_volc hz hv hj1 hj2 (j : Int) rfl (getX_fit l j)).mono ?_
      rintro e w9 ⟨hp, hx⟩
      obtain ⟨A9, c9, rfl, hr9⟩ := hp
      have ht9 := Tz.of hr9 (by omega)
      rw [hpg] at ht9
      clear hr9
      replace oZ := oZ.below hx
      replace hz := hz.below hx
      replace ht5 := ht5.below hx
      replace ht6 := ht6.below hx
      replace hb := hb.trans (hx.mono hb.size)
      clear hx
      go_wp2_with fail
      refine (get_vol ht9 hv hj1 hj2 (j : Int) rfl).mono ?_
      rintro e w10 ⟨rfl, hx⟩
      replace oZ := oZ.below hx
      replace hz := hz.below hx
      replace ht5 := ht5.below hx
      replace ht6 := ht6.below hx
      replace ht9 := ht9.below hx
      replace hb := hb.trans (hx.mono hb.size)
      clear hx
      have hsz := hb.size
      have ox := Nm.Own.new w10 27 (ic zX)
      have hg := grow w10 (Obj.cells (ic zX) 27)
      have lt_oZ := oZ.lt
      replace oZ := oZ.below hg
      replace hz := hz.below hg
      replace ht5 := ht5.below hg
      replace ht6 := ht6.below hg
      replace ht9 := ht9.below hg
      replace hb := hb.trans (hg.mono hb.size)
      clear hg
      go_wp2_with (refine sto27 (X := getX l j) rfl rfl rfl rfl ox ?_)
      intro w11 oU hs
      replace oZ := hs.own oZ (by omega)
      clear lt_oZ
      replace hz := hz.st hs ox
      replace ht5 := ht5.st hs ox
      replace ht6 := ht6.st hs ox
      replace ht9 := ht9.st hs ox
      replace hb := hs.below hb hsz
      clear hs hsz ox
      generalize hLLL : putL (putL l j X) i Y = LL at *
      go_wp2_with fail
      refine (same_any A5 A6 m c5 m c6 LL LL _ ht5.t ht6.t (by omega) (by omega)).mono ?_
      rintro e w12 ⟨rfl, hd⟩
      rw [decide_eq_true (rfl : LL = LL)]
      replace hb := below_dr hb hd
      replace hz := hz.dr hd
      replace ht9 := ht9.dr hd
      replace oZ := oZ.drr hd
      replace oU := oU.drr hd
      clear ht5 ht6 hd hpp hLLL
      go_wp2_with (first | refine ld27w (by kernel_rfl) rfl rfl oU ?_ | refine ld27w (by kernel_rfl) rfl rfl oZ ?_ | refine eq27 (X := getX l j) (by kernel_rfl) rfl rfl rfl ?_)
      refine (same_any A9 A m c9 m c l l _ ht9.t hz.t (by omega) (by omega)).mono ?_
      rintro e w13 ⟨rfl, hd⟩
      rw [decide_eq_true (rfl : l = l)]
      replace hb := below_dr hb hd
      go_wp2_with fail
      go_ret
      exact ⟨rfl, hb⟩
    · have h41 : (k4 != 0) = true := by simp [h4]
      subst h3
      clear p3 p4 h4
      go_wp2_with fail
      go_ret
      exact ⟨rfl, hb⟩
  · have h31 : (k3 != 0) = true := by simp [h3]
    clear p3 p4 h3
    go_wp2_with fail
    go_ret
    exact ⟨rfl, hb⟩
end Dw
end Go.Proofs.YtambgmjiafcokaaDoor
