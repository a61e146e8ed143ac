/-
  THE WALKS of the document's parts: a byte of a row, and all five parts.
-/
import Derived.Test.YtgfnpemonpebpaaRb
namespace Go.Proofs.Ytgfnpemonpebpaa
open Go.RowKit
set_option linter.unusedVariables false
set_option linter.unusedSimpArgs false
theorem rbyte_any (s : ByteArray) (i : Nat) (w : World) : Calls Try.prog 20 #[.string s, .int .i64 (i : Int)] w fun e w' => e = .returned (.int .u8 (Gf.nth (toN s) i : Nat)) ∧ w = w' := by
  by_cases h : i < s.size
  · have h1 : (i : Int) < (s.size : Int) := by omega
    have HE := Lib.hid (toN_nth s i h)
    go_enter Try.func20, Try.ntmps20
    go_wp2_with fail
    go_ret
    exact ⟨by rw [HE.out]; rfl, rfl⟩
  · have h1 : (s.size : Int) ≤ (i : Int) := by omega
    have HE : Hid (Gf.nth (toN s) i = 0) := Lib.hid (by rw [Gf.nth_eq, List.getElem?_eq_none (by rw [toN_length]; omega)]; rfl)
    go_enter Try.func20, Try.ntmps20
    go_wp2_with fail
    go_ret
    exact ⟨by rw [HE.out]; rfl, rfl⟩
theorem five_take' (L : List Nat) {P : Nat} (h : P < 5) : (five L).take P ++ [(((P + 1 : Nat) : Int), bs (Pa.part L (P + 1)))] = (five L).take (P + 1) := five_take L (X := P + 1) (by omega) (by omega)
theorem RP.belowB {w w' : World} {B C g : Nat} {n cap : Nat} {l : List (Int × ByteArray)} (h : RP w B (some ⟨g, 0, none⟩) n cap l) (hb : Below C w w') (hg : g < C) : RP w' B (some ⟨g, 0, none⟩) n cap l := by
  refine ⟨h.1, h.2.1, ?_⟩
  rcases h.2.2 with h' | ⟨g', c, cur, h1, h2, h3, h4⟩
  · exact .inl h'
  · have e : g' = g ∧ c = cap := by simpa using h1.symm
    obtain ⟨rfl, _⟩ := e
    exact .inr ⟨g', c, cur, h1, h2, (hb.block g' hg).trans h3, h4⟩
theorem RP.lt {w : World} {B g : Nat} {n cap : Nat} {l : List (Int × ByteArray)} (h : RP w B (some ⟨g, 0, none⟩) n cap l) : B ≤ g ∧ g < w.heap.size := h.2.lt g rfl
theorem take_snoc {l : List Nat} {k : Nat} (h : k < l.length) : l.take (k + 1) = l.take k ++ [Gf.nth l k] := by
  rw [List.take_succ_eq_append_getElem h, Gf.nth_eq, List.getElem?_eq_getElem h]; rfl
theorem at123 {X : Nat} {y0 y1 y2 : Nat} {e : Ending} (h : AtIs [1, 2, 3] [y0, y1, y2] X e) : e = .returned (.tuple #[.int .u8 (Gf.atk [1, 2, 3] [y0, y1, y2] X 3 : Nat), .bool true]) := by
  unfold AtIs at h
  rw [if_pos ⟨rfl, by decide⟩] at h
  exact h
set_option maxRecDepth 100000 in
set_option maxHeartbeats 1500000 in
theorem rcut_any (D : ByteArray) (hD : D.size ≤ 1000) (w : World) :
    Calls Try.prog 12 #[.string D] w fun e w' => ∃ g cap, e = .returned (.slice (some ⟨g, 0, none⟩) 5 cap) ∧ RP w' w.heap.size (some ⟨g, 0, none⟩) 5 cap (five (toN D)) ∧ Below w.heap.size w w' := by
  obtain ⟨n, hn⟩ : ∃ n, n = Pa.cnt D.size := ⟨_, rfl⟩
  have hr := fun w => rrows_any (D.size : Int) (by omega) (by omega) w
  simp only [rowsI_nat] at hr
  rw [← hn] at hr
  have hn3 : n ≤ 400 := by rw [hn]; unfold Pa.cnt; omega
  have hlL : Pa.cnt (toN D).length = n := by rw [toN_length, hn]
  have bL := toN_bytes D
  have hby := fun i w => rbyte_any D i w
  generalize hL : toN D = L at *
  have HN := Lib.hid (And.intro hn hL)
  clear hn hL
  have oP : RP (w.alloc (Obj.cells #[] 29)) w.heap.size (some ⟨w.heap.size, 0, none⟩) 0 0 ((five L).take 0) := ⟨rfl, World.ownsRow_made w #[] 0 (Nat.le_refl _) (by decide) rfl⟩
  have bW := (Below.refl w.heap.size w).alloc (Nat.le_refl _) (Obj.cells #[] 29)
  go_enter Try.func12, Try.ntmps12
  go_wp2_with (go_at_call 14; refine (hr _).mono ?_; rintro e w1 ⟨rfl, rfl⟩)
  generalize w.alloc (Obj.cells #[] 29) = w0 at *
  generalize hG : w.heap.size = G at *
  have HG := Lib.hid hG
  clear hG hr
  go_loopw [4, 5] (fun o i wr => ∃ X A cap, 1 ≤ X ∧ X ≤ 6 ∧ i = .int .i64 ((X : Nat) : Int) ∧ o = .slice (some ⟨A, 0, none⟩) (X - 1) cap ∧ RP wr G (some ⟨A, 0, none⟩) (X - 1) cap ((five L).take (X - 1)) ∧ Below G w wr) (fun _ i _ => 6 - (intOf i).toNat)
  case atStart => exact ⟨1, _, _, by omega, by omega, rfl, rfl, oP, bW⟩
  case round =>
    obtain ⟨X, A, cap, h1, h6, rfl, rfl, oP, bW⟩ := hrel
    by_cases hlt : X ≤ 5
    · have i5 : (X : Int) ≤ 5 := by omega
      have eX1 : IntKind.i64.wrap ((X : Int) + 1) = (X : Int) + 1 := IntWalk.i64_in _ (by omega)
      have eX2 : IntKind.u8.wrap (X : Int) = (X : Int) := by rw [IntKind.wrap_u8]; omega
      have hAl := oP.lt
      have hC5 : wr.heap.size < (wr.alloc (Obj.cells #[] 5)).heap.size := by simp
      have oB : RB (wr.alloc (Obj.cells #[] 5)) wr.heap.size (some ⟨wr.heap.size, 0, none⟩) 0 0 ((Pa.part L X).take 0) := ⟨rfl, fun _ h => by simp at h, World.ownsRow_made wr #[] 0 (Nat.le_refl _) (by decide) rfl⟩
      have hGw := bW.size
      replace oP := oP.below ((Below.refl wr.heap.size wr).alloc (Nat.le_refl _) (Obj.cells #[] 5))
      replace bW := bW.alloc (by have := HG.out; omega) (Obj.cells #[] 5)
      have lP : (Pa.part L X).length = n := by rw [Pa.part_length, hlL]
      have bP := Pa.part_bytes bL X
      go_wp2_with fail
      generalize wr.alloc (Obj.cells #[] 5) = w5 at *
      generalize hC : wr.heap.size = C at *
      have HC := Lib.hid hC
      clear hC
      go_loopw [6, 7] (fun o i wz => ∃ k A' cap', k ≤ n ∧ i = .int .i64 ((k : Nat) : Int) ∧ o = .slice (some ⟨A', 0, none⟩) k cap' ∧ RB wz C (some ⟨A', 0, none⟩) k cap' ((Pa.part L X).take k) ∧ RP wz G (some ⟨A, 0, none⟩) (X - 1) cap ((five L).take (X - 1)) ∧ Below G w wz ∧ C < wz.heap.size) (fun _ i _ => n - (intOf i).toNat)
      case atStart => exact ⟨0, _, _, by omega, rfl, rfl, oB, oP, bW, hC5⟩
      case round =>
        obtain ⟨k, A', cap', hk, rfl, rfl, oB, oP, bW, hC5⟩ := hrel
        by_cases hkn : k < n
        · have k0 : (k : Int) < (n : Int) := by omega
          obtain ⟨q1, hq1⟩ : ∃ q, q = n + k := ⟨_, rfl⟩
          obtain ⟨q2, hq2⟩ : ∃ q, q = 2 * n := ⟨_, rfl⟩
          obtain ⟨q3, hq3⟩ : ∃ q, q = q2 + k := ⟨_, rfl⟩
          have ek : IntKind.i64.wrap ((k : Int) + 1) = (k : Int) + 1 := IntWalk.i64_in _ (by omega)
          have e1 : IntKind.i64.wrap ((n : Int) + (k : Int)) = (q1 : Int) := by rw [IntWalk.i64_in _ (by omega)]; omega
          have e2 : IntKind.i64.wrap (2 * (n : Int)) = (q2 : Int) := by rw [IntWalk.i64_in _ (by omega)]; omega
          have e3 : IntKind.i64.wrap ((q2 : Int) + (k : Int)) = (q3 : Int) := by rw [IntWalk.i64_in _ (by omega)]; omega
          have eN : Gf.nth (Pa.part L X) k = Gf.atk [1, 2, 3] [Gf.nth L k, Gf.nth L q1, Gf.nth L q3] X 3 := by
            rw [Pa.part_nth L X (by rw [hlL]; exact hkn), hlL, hq3, hq2, hq1]
          have y0 := bL.at_ k
          have y1 := bL.at_ q1
          have y2 := bL.at_ q3
          have HE := Lib.hid eN
          clear hq1 hq2 hq3 eN
          have g0 := fun w => hby k w
          have g1 := fun w => hby q1 w
          have g2 := fun w => hby q3 w
          generalize Gf.nth L k = Y0 at *
          generalize Gf.nth L q1 = Y1 at *
          generalize Gf.nth L q3 = Y2 at *
          have hx8 : X < 256 := by omega
          have yy := Gf.atk_lt (xs := [1, 2, 3]) (Sx.three_bytes y0 y1 y2) X 3
          have hz1 : wr.heap.size + 1 = (wr.alloc (Obj.cells #[.int .u8 1, .int .u8 2, .int .u8 3] 5)).heap.size := by simp
          have hb1 : Bs ((wr.alloc (Obj.cells #[.int .u8 1, .int .u8 2, .int .u8 3] 5)).alloc (Obj.cells #[.int .u8 (Y0 : Int), .int .u8 (Y1 : Int), .int .u8 (Y2 : Int)] 5)) (some ⟨wr.heap.size, 0, none⟩) 3 [1, 2, 3] :=
            bs_three ((Own.new wr 5 #[.int .u8 ((1 : Nat) : Int), .int .u8 ((2 : Nat) : Int), .int .u8 ((3 : Nat) : Int)]).alloc _) (by omega) (by omega) (by omega)
          have hb2 : Bs ((wr.alloc (Obj.cells #[.int .u8 1, .int .u8 2, .int .u8 3] 5)).alloc (Obj.cells #[.int .u8 (Y0 : Int), .int .u8 (Y1 : Int), .int .u8 (Y2 : Int)] 5)) (some ⟨wr.heap.size + 1, 0, none⟩) 3 [Y0, Y1, Y2] :=
            bs_three (Own.new' _ 5 #[.int .u8 (Y0 : Int), .int .u8 (Y1 : Int), .int .u8 (Y2 : Int)] hz1) y0 y1 y2
          have kA : Below wr.heap.size wr ((wr.alloc (Obj.cells #[.int .u8 1, .int .u8 2, .int .u8 3] 5)).alloc (Obj.cells #[.int .u8 (Y0 : Int), .int .u8 (Y1 : Int), .int .u8 (Y2 : Int)] 5)) := ((Below.refl _ wr).alloc (Nat.le_refl _) _).alloc (by simp) _
          replace oB := oB.below kA
          replace oP := oP.below kA
          have bW' := bW.trans (kA.mono (by have := bW.size; have := HG.out; omega))
          have hC6 := Nat.lt_of_lt_of_le hC5 kA.size
          clear kA hz1 hby
          go_wp2_with (first | (go_at_call 20; refine (g0 _).mono ?_; clear g0; rintro e w' ⟨rfl, rfl⟩) | (go_at_call 20; refine (g1 _).mono ?_; clear g1; rintro e w' ⟨rfl, rfl⟩) | (go_at_call 20; refine (g2 _).mono ?_; clear g2; rintro e w' ⟨rfl, rfl⟩) | (go_at_call 19; refine (rat_any _ _ 3 3 3 3 [1, 2, 3] [Y0, Y1, Y2] X _ hx8 (by omega) (by omega) hb1 hb2).mono ?_; rintro e w7 ⟨he, hd⟩; obtain rfl := at123 he) | (at_builtin; refine app_byte rfl _ _ rfl C _ k cap' _ rfl ((oB.dr hd).alloc _) w7.heap.size (Gf.atk [1, 2, 3] [Y0, Y1, Y2] X 3) 1 rfl ?c1 yy (by omega) ?c3 (w7.heap.size + 1) ?c4 ?_; go_must (case c1 => simp [bv]); go_must (case c3 => (have := (below_dr bW' hd).size; have := hd.below.size; simp; omega)); go_must (case c4 => simp); intro g5 c5 w8 r8 g8 f8 b8))
          have s7 := hd.below.size
          have s8 := b8.size
          rw [World.size_alloc] at s8
          go_roundw
          case rel =>
            refine ⟨k + 1, _, _, by omega, by go_num, rfl, by rw [take_snoc (by rw [lP]; exact hkn), HE.out]; exact r8, ?_, ?_, by omega⟩
            · exact ((oP.below hd.below).below ((Below.refl _ _).alloc (Nat.le_refl _) _)).belowB b8 (by omega)
            · exact ((below_dr bW' hd).alloc (by have := HG.out; have := bW'.size; omega) _).trans (b8.mono (by omega))
          case measure => first | (simp [intOf]; done) | (simp [intOf]; omega)
        · obtain rfl : k = n := by omega
          rw [List.take_of_length_le (Nat.le_of_eq lP)] at oB
          have hcv := conv_bs wr A' 0 (Pa.part L X) k cap' lP oB.rg
          have d1 := cell_two_new wr (.int .i64 (X : Int)) (.string (bs (Pa.part L X))) 29
          have kA : Below wr.heap.size wr (wr.alloc (Obj.cells #[.int .i64 (X : Int), .string (bs (Pa.part L X))] 29)) := (Below.refl _ wr).alloc (Nat.le_refl _) _
          have oP8 := oP.below kA
          have c1 := d1 0 _ rfl
          have c2 := d1 1 _ rfl
          have sz0 := bW.size
          clear d1
          go_wp2_with (at_builtin; refine app_part rfl _ _ rfl G _ (X - 1) cap _ rfl oP8 wr.heap.size 1 ((X : Int), bs (Pa.part L X)) rfl c1 c2 (by omega) ?c3 (wr.heap.size + 1) ?c4 ?_; go_must (case c3 => (have := HG.out; simp; omega)); go_must (case c4 => simp); intro g5 c5 w8 r8 b8)
          rw [five_take L h1 hlt] at r8
          rw [show X - 1 + 1 = X from by omega] at r8
          go_roundw
          case rel => exact ⟨X + 1, _, _, by omega, by omega, by go_num, rfl, r8, (bW.trans (kA.mono (by have := HG.out; omega))).trans b8⟩
          case measure => first | (simp [intOf]; done) | (simp [intOf]; omega)
    · obtain rfl : X = 6 := by omega
      go_wp2_with fail
      go_ret
      refine ⟨_, _, rfl, ?_, by rw [HG.out]; exact bW⟩
      rw [List.take_of_length_le (by rw [five_length]; omega)] at oP
      rw [HG.out]
      exact oP
end Go.Proofs.Ytgfnpemonpebpaa
