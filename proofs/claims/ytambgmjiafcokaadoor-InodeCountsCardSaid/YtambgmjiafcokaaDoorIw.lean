/-
  THE WALK of the document's getting of an inode (Get).
-/
import Derived.Test.YtambgmjiafcokaaDoorIu
namespace Go.Proofs.YtambgmjiafcokaaDoor
set_option linter.unusedVariables false
set_option maxRecDepth 100000
set_option linter.unusedSimpArgs false
open Go.RowKit
namespace Dw
open _root_.Go.Proofs.YtambgmjiafcokaaDoor.Nm
theorem res27p {fn : Func} {p q : Tmp} {R : Ending → World → Prop} {a : Act} {w : World} {g : Nat} {X : Nat → Int} {v : Value}
    (hr : fn.results = #[.cell p 27, .tmp q]) (hp : a.tmps.getD p undef = .pointer (some ⟨g, 0, none⟩)) (hq : a.tmps.getD q undef = v) (hg : Nm.Own w g 27 (ic X)) (hd : a.defers = [])
    (hR : R (.returned (.tuple #[.agg (ic X), v])) w) : bodyPost Tryd.prog fn R .ret a w := by
  refine bodyPost_ret ?_ hd hR
  have hp' : a.tmps[p]?.getD undef = .pointer (some ⟨g, 0, none⟩) := by simpa using hp
  have hq' : a.tmps[q]?.getD undef = v := by simpa using hq
  simp [results, hr, hp', hq', asAddr, run_loadVar_row w g 27 27 _ (0, 0) _ hg Tryd.underlying27 rfl (by rw [ic_size]; exact info27)]
set_option maxHeartbeats 2000000 in
theorem rget_iany (A : Option Addr) (m c : Nat) (l : List ByteArray) (n : Int) (w : World) (hl : Tz w A m c l) (hL : Lit l m) :
    Calls Tryd.prog 13 #[.slice A m c, .int .i64 n] w fun e w' => GetIs l n e ∧ Below w.heap.size w w' := by
  obtain ⟨B, hB⟩ : ∃ B, w.heap.size = B := ⟨_, rfl⟩
  have o0 := Nm.Own.new w 27 (ic zX)
  have b0 := grow w (Obj.cells (ic zX) 27)
  have hl0 := hl.below b0
  have hof := fun wr (h : Tz wr A m c l) => rof_any A m c l wr h hL
  rw [hB] at o0 b0
  go_enter Tryd.func13, Tryd.ntmps13
  go_wp2_with fail
  refine (hof _ hl0).mono ?_
  rintro e w1 ⟨hof, hx⟩
  have o1 := o0.below hx
  have b1 := b0.trans (hx.mono (hB ▸ b0.size))
  have og := Nm.Own.new w1 58 gz
  have o2 := o1.alloc (Obj.cells gz 58)
  have hb2 := b1.alloc (by have := b1.size; omega) (Obj.cells gz 58)
  have hlt := o1.lt
  clear o0 b0 hl0 hx o1
  rcases hof with ⟨b, y, hv, rfl⟩ | ⟨hv, rfl⟩
  · have HV := Lib.hid hv
    go_wp2_with (refine sto24 (cs := gc b y) rfl rfl rfl rfl og (gc_one _ _) gz_one ?_)
    intro w5 o5 s5
    have hb5 := s5.below hb2 (by omega)
    have oB := s5.own o2 (by omega)
    clear hb2 og s5 o2 b1
    generalize w1.heap.size = g at *
    have d1 : w5.cell? ⟨g, 1, none⟩ = some (.int .i64 (y : Int)) := o5.cell 1
    have d4 : w5.cell? ⟨g, 4, none⟩ = some (.int .i64 3) := o5.cell 4
    have hy := hv.lt
    by_cases h1 : n < 1
    · have HN := Lib.hid h1
      clear hv
      go_wp2_with (refine sto27 (X := zX) rfl rfl rfl rfl oB ?_; intro w6 o6 s6)
      exact res27p rfl rfl rfl o6 rfl ⟨.inr (.inl ⟨b, y, HV.out, .inl HN.out, rfl⟩), by first | exact s6.below hb5 (Nat.le_refl _) | (rw [hB]; exact s6.below hb5 (Nat.le_refl _))⟩
    · by_cases h2 : (y : Int) < n
      · have HN := Lib.hid h2
        clear hv
        go_wp2_with (refine sto27 (X := zX) rfl rfl rfl rfl oB ?_; intro w6 o6 s6)
        exact res27p rfl rfl rfl o6 rfl ⟨.inr (.inl ⟨b, y, HV.out, .inr HN.out, rfl⟩), by first | exact s6.below hb5 (Nat.le_refl _) | (rw [hB]; exact s6.below hb5 (Nat.le_refl _))⟩
      · obtain ⟨j, rfl⟩ := Int.eq_ofNat_of_zero_le (show 0 ≤ n by omega)
        have HJ := Lib.hid (show 1 ≤ j ∧ j ≤ y by omega)
        have hbk := bk_lt hv (show 1 ≤ j by omega) (show j ≤ y by omega)
        have hmb : l.length = m := hl.t.1
        have hl5 := hl.below (hB ▸ hb5)
        obtain ⟨b0, off, rfl, hcell⟩ := hl5.t.2 (by omega)
        have hcT := hcell (bk j) (by omega)
        have hsT : (nth l (bk j)).size = 128 := hv.blk _ (by omega)
        have hKm : (bk j : Int) < (m : Int) := by omega
        have HX := Lib.hid (show getX l j = Ni.dec ((toL (nth l (bk j))).drop (pl j)) from rfl)
        have hplz := pl_two j
        obtain ⟨q, hq⟩ : ∃ q, q = j - 1 := ⟨_, rfl⟩
        have e1 : IntKind.i64.wrap ((j : Int) - 1) = (q : Int) := by rw [IntWalk.i64_in _ (by omega)]; omega
        have e2 : (q : Int).tdiv 2 = ((q / 2 : Nat) : Int) := rfl
        have e2' : (q : Int) / 2 = ((q / 2 : Nat) : Int) := rfl
        have e3 : (q : Int).tmod 2 = ((q % 2 : Nat) : Int) := rfl
        have e3' : (q : Int) % 2 = ((q % 2 : Nat) : Int) := rfl
        have hbj : bk j = 3 + q / 2 := by unfold bk; rw [hq]
        have hpj : pl j = 64 * (q % 2) := by unfold pl; rw [hq]
        rw [hbj] at hcT hKm
        generalize hT : nth l (bk j) = T at *
        rw [← hbj, hT] at hcT
        rw [hpj] at HX hplz
        rw [hbj] at hcT
        have hQ2 : q / 2 < 64 := by omega
        have hR2 : q % 2 < 2 := by omega
        clear hpj hbj hbk hcell hv hl5
        generalize q / 2 = Q at *
        generalize q % 2 = R at *
        have f1 : IntKind.i64.wrap (Q : Int) = (Q : Int) := IntWalk.i64_in _ (by omega)
        have f2 : IntKind.i64.wrap (3 + (Q : Int)) = 3 + (Q : Int) := IntWalk.i64_in _ (by omega)
        have f3 : IntKind.i64.wrap (R : Int) = (R : Int) := IntWalk.i64_in _ (by omega)
        have f4 : IntKind.i64.wrap ((R : Int) * 64) = (R : Int) * 64 := IntWalk.i64_in _ (by omega)
        have f5 : IntKind.i64.wrap ((R : Int) * 64 + 64) = (R : Int) * 64 + 64 := IntWalk.i64_in _ (by omega)
        have f6 : (3 + (Q : Int)).toNat = 3 + Q := by omega
        have f7 : ((R : Int) * 64).toNat = 64 * R := by omega
        have f8 : ((R : Int) * 64 + 64).toNat = 64 * R + 64 := by omega
        have f9 : (R : Int) * 64 + 64 ≤ 128 := by omega
        have g1 : (3 : Int) + (Q : Int) < (m : Int) := by omega
        have g2 : 0 ≤ (3 : Int) + (Q : Int) := by omega
        have g3 : 0 ≤ (R : Int) * 64 := by omega
        have g4 : (R : Int) * 64 ≤ (R : Int) * 64 + 64 := by omega
        have hs64 : (T.extract (64 * R) (64 * R + 64)).size = 64 := by rw [ByteArray.size_extract]; omega
        have hofs := fun wr => ofs_any (T.extract (64 * R) (64 * R + 64)) wr hs64
        have HE := Lib.hid (show ic (Ni.dec (toL (T.extract (64 * R) (64 * R + 64)))) = ic (getX l j) by
          refine ic_congr fun q hq => ?_
          rw [HX.out, ← Ni.dec_take _ hq, ← Ni.dec_take ((toL T).drop (64 * R)) hq, toL_extract, List.take_take, show min 24 (64 * R + 64 - 64 * R) = 24 by omega])
        clear hq hs64
        go_wp2_with fail
        refine (hofs _).mono ?_
        rintro e w7 ⟨rfl, hx7⟩
        rw [HE.out]
        have oB7 := oB.below hx7
        have hb7 := hb5.trans (hx7.mono (hB ▸ hb5.size))
        clear oB hb5 hx7 hofs HE
        go_wp2_with (refine sto27 (X := getX l j) rfl rfl rfl rfl oB7 ?_; intro w6 o6 s6)
        exact res27p rfl rfl rfl o6 rfl ⟨.inr (.inr ⟨b, y, j, HV.out, rfl, HJ.out.1, HJ.out.2, rfl⟩), by first | exact s6.below hb7 (Nat.le_refl _) | (rw [hB]; exact s6.below hb7 (Nat.le_refl _))⟩
  · have HV := Lib.hid hv
    clear hv
    go_wp2_with (refine sto24 (cs := gz) rfl rfl rfl rfl og gz_one gz_one ?_)
    intro w5 o5 s5
    have hb5 := s5.below hb2 (by omega)
    have oB := s5.own o2 (by omega)
    clear hb2 og s5 o5 o2 b1
    go_wp2_with (refine sto27 (X := zX) rfl rfl rfl rfl oB ?_; intro w6 o6 s6)
    exact res27p rfl rfl rfl o6 rfl ⟨.inl ⟨HV.out, rfl⟩, by first | exact s6.below hb5 (Nat.le_refl _) | (rw [hB]; exact s6.below hb5 (Nat.le_refl _))⟩
end Dw
end Go.Proofs.YtambgmjiafcokaaDoor
