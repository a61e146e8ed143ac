/-
  THE WALK of a block, of the code.
-/
import Derived.Test.YtaoaebdjinlcnaaDoorCCo
set_option linter.unusedVariables false
set_option linter.unusedSimpArgs false
set_option maxRecDepth 100000
namespace Go.Proofs.YtaoaebdjinlcnaaDoor.Ci
open Go.RowKit
theorem Only.own {b : Nat} {a w : World} (h : Only b a w) {g : Nat} {t : TypeId} {cs : Array Value} (o : Own a g t cs) (hg : g ≠ b) : Own w g t cs := o.kept (h.block g hg)
/-- the first i numbers of n, and zeros -/
def prn (n : Nat) (F : List Nat) (i : Nat) : List Nat := F.take i ++ List.replicate (n - i) 0
theorem prn_length {n : Nat} {F : List Nat} (h : F.length = n) {i : Nat} (hi : i ≤ n) : (prn n F i).length = n := by simp [prn, h]; omega
theorem prn_next {n : Nat} {F : List Nat} (h : F.length = n) {i : Nat} (hi : i < n) : (prn n F i).set i (Ch.nth F i) = prn n F (i + 1) := by
  have e : n - i = (n - (i + 1)) + 1 := by omega
  have l : (F.take i).length = i := by rw [List.length_take]; omega
  unfold prn
  rw [e, List.replicate_succ, List.set_append_right _ _ (by omega), l, Nat.sub_self, List.set_cons_zero, List.take_succ_eq_append_getElem (by omega), Ch.nth_lt (by omega), List.append_assoc]
  rfl
theorem prn_all {n : Nat} {F : List Nat} (h : F.length = n) : prn n F n = F := by unfold prn; rw [List.take_of_length_le (by omega)]; simp
theorem prn_zero (n : Nat) (F : List Nat) : prn n F 0 = List.replicate n 0 := by simp [prn]
theorem nth_out (F : List Nat) (i j : Nat) (hi : i < 16) (hj : j < 4) : Ch.nth (Ch.blockOf F) (4 * i + j) = Ch.add (Ch.nth (Ch.rounds F 10) i) (Ch.nth F i) / 256 ^ j % 256 := by
  rw [Ch.nth_lt (by simp [Ch.blockOf]; omega)]
  simp only [Ch.blockOf, List.getElem_map, List.getElem_range, Ch.out]
  rw [show (4 * i + j) / 4 = i from by omega, show (4 * i + j) % 4 = j from by omega]
theorem blockOf_length (F : List Nat) : (Ch.blockOf F).length = 64 := by simp [Ch.blockOf]
theorem add_bd (a b : Nat) : Ch.add a b < 4294967296 := Ch.add_lt a b
set_option maxRecDepth 100000 in
set_option maxHeartbeats 4000000 in
theorem block_any (K N : List Nat) (n : Nat) (hK : Ch.By K) (hN : Ch.By N) (lK : K.length = 32) (lN : N.length = 12) (hn : n < 4294967296) (w : World) :
    Calls Tryd.prog 75 #[.agg (vs .u8 K), .agg (vs .u8 N), .int .u32 n] w fun e w' => e = .returned (.agg (vs .u8 (Ch.block K N n))) ∧ Below w.heap.size w w' := by
  have hF := first_length K N n
  have hW := Ch.Wd.first hK hN hn
  have hcall := fun w => words_any K N n hK hN lK lN hn w
  obtain ⟨W0, hW0⟩ : ∃ W0, W0 = (((w.alloc (Obj.cells (vs .u8 K) 24)).alloc (Obj.cells (vs .u8 N) 54)).alloc (Obj.cells (vs .u8 (List.replicate 64 0)) 90)) := ⟨_, rfl⟩
  have o0 : Own W0 w.heap.size 24 (vs .u8 K) := by rw [hW0]; exact ((Own.new' _ _ _ rfl).alloc _).alloc _
  have o1 : Own W0 (w.heap.size + 1) 54 (vs .u8 N) := by rw [hW0]; exact (Own.new' _ _ _ (by simp)).alloc _
  have o2 : Own W0 (w.heap.size + 1 + 1) 90 (vs .u8 (List.replicate 64 0)) := by rw [hW0]; exact Own.new' _ _ _ (by simp)
  have hb0 : Below w.heap.size w W0 := by rw [hW0]; exact (((Below.refl _ w).alloc (by simp) _).alloc (by simp) _).alloc (by simp; omega) _
  have z0 : W0.heap.size = w.heap.size + 1 + 1 + 1 := by rw [hW0]; simp
  have HW0 := Lib.hid hW0
  clear hW0
  go_enter Tryd.func75, Tryd.ntmps75
  go_wp2_with (first | (refine ld t23 rfl rfl rfl (by have := o0; rw [HW0.out] at this; exact this) lK ?_) | (refine ld t24 rfl rfl rfl (by have := o1; rw [HW0.out] at this; exact this) lN ?_))
  change Calls _ _ _ (((w.alloc (Obj.cells (vs .u8 K) 24)).alloc (Obj.cells (vs .u8 N) 54)).alloc (Obj.cells (vs .u8 (List.replicate 64 0)) 90)) _
  rw [← HW0.out]
  clear HW0
  refine (hcall _).mono ?_
  rintro e w1 ⟨rfl, hx⟩
  have hb1 := hb0.trans (hx.mono hb0.size)
  replace o2 := Below.own hx o2 (by omega)
  have z1 := hx.size
  clear o0 o1 hx hb0
  have hg1 : w.heap.size + 1 + 1 < w1.heap.size := by omega
  clear z0 z1
  go_wp2_with (first | (refine sto_new t38 rfl rfl rfl (by simp) rfl rfl hF ?_) | (refine ld t38 rfl rfl rfl (Own.new' _ _ _ rfl) hF ?_))
  have oB : Own ((w1.alloc (Obj.cells (vs .u32 (Ch.first K N n)) 110)).alloc (Obj.cells (vs .u32 (Ch.first K N n)) 110)) w1.heap.size 110 (vs .u32 (Ch.first K N n)) := (Own.new' _ _ _ rfl).alloc _
  have oW : Own ((w1.alloc (Obj.cells (vs .u32 (Ch.first K N n)) 110)).alloc (Obj.cells (vs .u32 (Ch.first K N n)) 110)) (w1.heap.size + 1) 110 (vs .u32 (Ch.first K N n)) := Own.new' _ _ _ (by simp)
  have oR := (o2.alloc (Obj.cells (vs .u32 (Ch.first K N n)) 110)).alloc (Obj.cells (vs .u32 (Ch.first K N n)) 110)
  have hb2 := (hb1.alloc (by omega) (Obj.cells (vs .u32 (Ch.first K N n)) 110)).alloc (by simp; omega) (Obj.cells (vs .u32 (Ch.first K N n)) 110)
  have hz : ((w1.alloc (Obj.cells (vs .u32 (Ch.first K N n)) 110)).alloc (Obj.cells (vs .u32 (Ch.first K N n)) 110)).heap.size = w1.heap.size + 1 + 1 := by simp
  clear o2 hb1 hcall
  generalize ((w1.alloc (Obj.cells (vs .u32 (Ch.first K N n)) 110)).alloc (Obj.cells (vs .u32 (Ch.first K N n)) 110)) = wx at *
  generalize w1.heap.size = G at *
  generalize hFF : Ch.first K N n = F at *
  have HFF := Lib.hid hFF
  clear hFF
  have HB := Lib.hid (And.intro oB (And.intro oR (And.intro hb2 hz)))
  clear oB oR hb2 hz
  go_loopw [22] (fun i wr => ∃ k : Nat, k ≤ 10 ∧ i = .int .i64 k ∧ Own wr (G + 1) 110 (vs .u32 (Ch.rounds F k)) ∧ Only (G + 1) wx wr) (fun i _ => 10 - (intOf i).toNat)
  case atStart => exact ⟨0, by omega, rfl, oW, Only.refl _ _⟩
  case round =>
    clear oW
    obtain ⟨k, hk, rfl, oW, ho⟩ := hrel
    have hWk := hW.rounds k
    by_cases hlt : k < 10
    · generalize hSk : Ch.rounds F k = S at *
      have HS := Lib.hid hSk
      clear hSk
      generalize wr = wo at *
      have hkI : (k : Int) < 10 := by omega
      go_wp2_with fail
      go_loopw [24] (fun i wr => ∃ j : Nat, j ≤ 4 ∧ i = .int .i64 j ∧ Own wr (G + 1) 110 (vs .u32 (Ch.cols S j)) ∧ Only (G + 1) wx wr) (fun i _ => 4 - (intOf i).toNat)
      case atStart => exact ⟨0, by omega, rfl, oW, ho⟩
      case round =>
        clear oW ho
        obtain ⟨j, hj, rfl, oW, ho⟩ := hrel
        generalize wr = wo at *
        by_cases hjt : j < 4
        · have hjI : (j : Int) < 4 := by omega
          have e1 : IntKind.i64.wrap (4 + (j : Int)) = 4 + (j : Int) := IntWalk.i64_in _ (by omega)
          have e2 : IntKind.i64.wrap (8 + (j : Int)) = 8 + (j : Int) := IntWalk.i64_in _ (by omega)
          have e3 : IntKind.i64.wrap (12 + (j : Int)) = 12 + (j : Int) := IntWalk.i64_in _ (by omega)
          go_wp2_with fail
          refine (cstep_any (Ch.cols S j) (hWk.cols j) (G + 1) 110 j (4 + j) (8 + j) (12 + j) _ (by omega) (by omega) (by omega) (by omega) oW).mono ?_
          rintro e w3 ⟨rfl, oW', ho'⟩
          go_wp2_with fail
          go_roundw
          case rel => exact ⟨j + 1, by omega, by go_num, oW', ho.trans ho'⟩
          case measure => simp [intOf]; omega
        · obtain rfl : j = 4 := by omega
          simp only [show ((4 : Nat) : Int) = 4 from rfl]
          go_wp2_with fail
          go_loopw [37] (fun i wr => ∃ j : Nat, j ≤ 4 ∧ i = .int .i64 j ∧ Own wr (G + 1) 110 (vs .u32 (Ch.diags (Ch.cols S 4) j)) ∧ Only (G + 1) wx wr) (fun i _ => 4 - (intOf i).toNat)
          case atStart => exact ⟨0, by omega, rfl, oW, ho⟩
          case round =>
            clear oW ho
            obtain ⟨j, hj, rfl, oW, ho⟩ := hrel
            generalize wr = wo at *
            rcases (show j = 0 ∨ j = 1 ∨ j = 2 ∨ j = 3 ∨ j = 4 from by omega) with rfl | rfl | rfl | rfl | rfl
            · simp only [show ((0 : Nat) : Int) = 0 from rfl]
              go_wp2_with fail
              refine (cstep_any (Ch.diags (Ch.cols S 4) 0) ((hWk.cols 4).diags 0) (G + 1) 110 0 5 10 15 _ (by decide) (by decide) (by decide) (by decide) oW).mono ?_
              rintro e w3 ⟨rfl, oW', ho'⟩
              go_wp2_with fail
              go_roundw
              case rel => exact ⟨1, by omega, rfl, oW', ho.trans ho'⟩
              case measure => simp [intOf]
            · simp only [show ((1 : Nat) : Int) = 1 from rfl]
              go_wp2_with fail
              refine (cstep_any (Ch.diags (Ch.cols S 4) 1) ((hWk.cols 4).diags 1) (G + 1) 110 1 6 11 12 _ (by decide) (by decide) (by decide) (by decide) oW).mono ?_
              rintro e w3 ⟨rfl, oW', ho'⟩
              go_wp2_with fail
              go_roundw
              case rel => exact ⟨2, by omega, rfl, oW', ho.trans ho'⟩
              case measure => simp [intOf]
            · simp only [show ((2 : Nat) : Int) = 2 from rfl]
              go_wp2_with fail
              refine (cstep_any (Ch.diags (Ch.cols S 4) 2) ((hWk.cols 4).diags 2) (G + 1) 110 2 7 8 13 _ (by decide) (by decide) (by decide) (by decide) oW).mono ?_
              rintro e w3 ⟨rfl, oW', ho'⟩
              go_wp2_with fail
              go_roundw
              case rel => exact ⟨3, by omega, rfl, oW', ho.trans ho'⟩
              case measure => simp [intOf]
            · simp only [show ((3 : Nat) : Int) = 3 from rfl]
              go_wp2_with fail
              refine (cstep_any (Ch.diags (Ch.cols S 4) 3) ((hWk.cols 4).diags 3) (G + 1) 110 3 4 9 14 _ (by decide) (by decide) (by decide) (by decide) oW).mono ?_
              rintro e w3 ⟨rfl, oW', ho'⟩
              go_wp2_with fail
              go_roundw
              case rel => exact ⟨4, by omega, rfl, oW', ho.trans ho'⟩
              case measure => simp [intOf]
            · simp only [show ((4 : Nat) : Int) = 4 from rfl]
              go_wp2_with fail
              go_roundw
              case rel => refine ⟨k + 1, by omega, by go_num, ?_, ho⟩; show Own _ _ _ (vs .u32 (Ch.diags (Ch.cols (Ch.rounds F k) 4) 4)); rw [HS.out]; exact oW
              case measure => simp [intOf]; omega
    · obtain rfl : k = 10 := by omega
      simp only [show ((10 : Nat) : Int) = 10 from rfl]
      generalize wr = wo at *
      go_wp2_with fail
      change Code.wp _ _ _ _ (wo.alloc (Obj.cells (vs .u8 (List.replicate 64 0)) 90))
      have hz := HB.out.2.2.2
      have oB := ho.own HB.out.1 (by omega)
      have oR := ho.own HB.out.2.1 (by omega)
      have hb := HB.out.2.2.1.trans (ho.below (by omega))
      have hH : wo.heap.size = G + 1 + 1 := by rw [ho.size]; exact hz
      replace oB := oB.alloc (Obj.cells (vs .u8 (List.replicate 64 0)) 90)
      replace oR := oR.alloc (Obj.cells (vs .u8 (List.replicate 64 0)) 90)
      replace oW := oW.alloc (Obj.cells (vs .u8 (List.replicate 64 0)) 90)
      replace hb := hb.alloc (by omega) (Obj.cells (vs .u8 (List.replicate 64 0)) 90)
      have oO : Own (wo.alloc (Obj.cells (vs .u8 (List.replicate 64 0)) 90)) wo.heap.size 90 (vs .u8 (prn 64 (Ch.blockOf F) 0)) := by rw [prn_zero]; exact Own.new' _ _ _ rfl
      clear HB ho hz
      generalize (wo.alloc (Obj.cells (vs .u8 (List.replicate 64 0)) 90)) = wy at *
      generalize wo.heap.size = H at *
      have HH := Lib.hid hH
      clear hH
      generalize hX : Ch.rounds F 10 = X at *
      have hWX : Ch.Wd X := hWk
      have fX := hWX.1
      have HK := Lib.hid (And.intro oB (And.intro oR (And.intro oW hb)))
      clear oB oR oW hb
      go_loopw [57] (fun i' wr => ∃ i : Nat, i ≤ 16 ∧ i' = .int .i64 i ∧ Own wr H 90 (vs .u8 (prn 64 (Ch.blockOf F) (4 * i))) ∧ Only H wy wr) (fun i _ => 16 - (intOf i).toNat)
      case atStart => exact ⟨0, by omega, rfl, oO, Only.refl _ _⟩
      case round =>
        clear oO
        obtain ⟨i, hi, rfl, oO, ho⟩ := hrel
        generalize wr = wo at *
        by_cases hlt : i < 16
        · have oB := ho.own HK.out.1 (by rw [HH.out]; omega)
          have oW := ho.own HK.out.2.2.1 (by rw [HH.out]; omega)
          have c1 := oB.cell (i := i) (by omega)
          have c2 := oW.cell (i := i) (by omega)
          have iI : (i : Int) < 16 := by omega
          have e1 : IntKind.u32.wrap ((Ch.nth X i : Nat) + (Ch.nth F i : Nat) : Int) = ((Ch.add (Ch.nth X i) (Ch.nth F i) : Nat) : Int) := rfl
          have bS := add_bd (Ch.nth X i) (Ch.nth F i)
          generalize hSm : Ch.add (Ch.nth X i) (Ch.nth F i) = Sm at *
          have HSm := Lib.hid hSm
          clear hSm
          go_wp2_with fail
          go_quiet (fail)
          clear c1 c2 e1 oB oW
          have oO' : Own (wo.drewN nq) H 90 (vs .u8 (prn 64 (Ch.blockOf F) (4 * i))) := oO
          have ho' : Only H wy (wo.drewN nq) := ⟨ho.os, ho.tape, ho.output, ho.size, ho.block⟩
          clear oO ho
          generalize wo.drewN nq = wp at *
          have hSm := HSm.out
          obtain ⟨q, hq⟩ : ∃ q, q = 4 * i := ⟨_, rfl⟩
          have e2 : IntKind.i64.wrap (4 * (i : Int)) = (q : Int) := by rw [IntWalk.i64_in _ (by omega)]; omega
          have bq : q ≤ 60 := by omega
          rw [← hq] at oO'
          have HX := Lib.hid hX
          clear hSm hX
          go_wp2_with fail
          go_loopw [67] (fun j' wr => ∃ j : Nat, j ≤ 4 ∧ j' = .int .i64 j ∧ Own wr H 90 (vs .u8 (prn 64 (Ch.blockOf F) (q + j))) ∧ Only H wy wr) (fun i _ => 4 - (intOf i).toNat)
          case atStart => exact ⟨0, by omega, rfl, oO', ho'⟩
          case round =>
            clear oO' ho'
            obtain ⟨j, hj, rfl, oO, ho⟩ := hrel
            have hX := HX.out
            have hSm := HSm.out
            generalize wr = wo at *
            rcases (show j = 0 ∨ j = 1 ∨ j = 2 ∨ j = 3 ∨ j = 4 from by omega) with rfl | rfl | rfl | rfl | rfl
            · have e3 : IntKind.i64.wrap ((q : Int)) = ((q + 0 : Nat) : Int) := by rw [IntWalk.i64_in _ (by omega)]; rfl
              have hl := prn_length (blockOf_length F) (i := q + 0) (by omega)
              have c1 := oO.cell (i := q + 0) (by omega)
              have z1 := oO.frozen (q + 0)
              have ib : ((q + 0 : Nat) : Int) < 64 := by omega
              have nv := nth_out F i 0 hlt (by decide)
              rw [hX, hSm, ← hq] at nv
              have st := oO.set (q + 0) (Sm / 256 ^ 0 % 256)
              rw [← nv, prn_next (blockOf_length F) (by omega)] at st
              rw [nv] at st
              have ho' := ho.set (q + 0) (.int .u8 (Sm / 256 ^ 0 % 256 : Nat))
              have wv : IntKind.u8.wrap (Sm : Int) = ((Sm / 256 ^ 0 % 256 : Nat) : Int) := by
                have : (256 : Nat) ^ 0 = 1 := by decide
                rw [this, Nat.div_one]; rfl
              generalize hp : q + 0 = p at *
              generalize hvv : Sm / 256 ^ 0 % 256 = vv at *
              have HP := Lib.hid hp
              clear hp nv hvv hX hSm hl hq
              simp only [show ((0 : Nat) : Int) = 0 from rfl]
              go_wp2_with fail
              go_roundw
              case rel => refine ⟨1, by omega, rfl, ?_, ho'⟩; rw [show q + 1 = p + 1 from by rw [← HP.out]]; exact st
              case measure => simp [intOf]
            · have e3 : IntKind.i64.wrap ((q : Int) + 1) = ((q + 1 : Nat) : Int) := by rw [IntWalk.i64_in _ (by omega)]; rfl
              have hl := prn_length (blockOf_length F) (i := q + 1) (by omega)
              have c1 := oO.cell (i := q + 1) (by omega)
              have z1 := oO.frozen (q + 1)
              have ib : ((q + 1 : Nat) : Int) < 64 := by omega
              have nv := nth_out F i 1 hlt (by decide)
              rw [hX, hSm, ← hq] at nv
              have st := oO.set (q + 1) (Sm / 256 ^ 1 % 256)
              rw [← nv, prn_next (blockOf_length F) (by omega)] at st
              rw [nv] at st
              have ho' := ho.set (q + 1) (.int .u8 (Sm / 256 ^ 1 % 256 : Nat))
              have wv : IntKind.u8.wrap ((Sm : Int) / 256) = ((Sm / 256 ^ 1 % 256 : Nat) : Int) := by
                have : (256 : Nat) ^ 1 = 256 := by decide
                rw [this]; rfl
              generalize hp : q + 1 = p at *
              generalize hvv : Sm / 256 ^ 1 % 256 = vv at *
              have HP := Lib.hid hp
              clear hp nv hvv hX hSm hl hq
              simp only [show ((1 : Nat) : Int) = 1 from rfl]
              go_wp2_with fail
              go_roundw
              case rel => refine ⟨2, by omega, rfl, ?_, ho'⟩; rw [show q + 2 = p + 1 from by rw [← HP.out]]; exact st
              case measure => simp [intOf]
            · have e3 : IntKind.i64.wrap ((q : Int) + 2) = ((q + 2 : Nat) : Int) := by rw [IntWalk.i64_in _ (by omega)]; rfl
              have hl := prn_length (blockOf_length F) (i := q + 2) (by omega)
              have c1 := oO.cell (i := q + 2) (by omega)
              have z1 := oO.frozen (q + 2)
              have ib : ((q + 2 : Nat) : Int) < 64 := by omega
              have nv := nth_out F i 2 hlt (by decide)
              rw [hX, hSm, ← hq] at nv
              have st := oO.set (q + 2) (Sm / 256 ^ 2 % 256)
              rw [← nv, prn_next (blockOf_length F) (by omega)] at st
              rw [nv] at st
              have ho' := ho.set (q + 2) (.int .u8 (Sm / 256 ^ 2 % 256 : Nat))
              have wv : IntKind.u8.wrap ((Sm : Int) / 65536) = ((Sm / 256 ^ 2 % 256 : Nat) : Int) := by
                have : (256 : Nat) ^ 2 = 65536 := by decide
                rw [this]; rfl
              generalize hp : q + 2 = p at *
              generalize hvv : Sm / 256 ^ 2 % 256 = vv at *
              have HP := Lib.hid hp
              clear hp nv hvv hX hSm hl hq
              simp only [show ((2 : Nat) : Int) = 2 from rfl]
              go_wp2_with fail
              go_roundw
              case rel => refine ⟨3, by omega, rfl, ?_, ho'⟩; rw [show q + 3 = p + 1 from by rw [← HP.out]]; exact st
              case measure => simp [intOf]
            · have e3 : IntKind.i64.wrap ((q : Int) + 3) = ((q + 3 : Nat) : Int) := by rw [IntWalk.i64_in _ (by omega)]; rfl
              have hl := prn_length (blockOf_length F) (i := q + 3) (by omega)
              have c1 := oO.cell (i := q + 3) (by omega)
              have z1 := oO.frozen (q + 3)
              have ib : ((q + 3 : Nat) : Int) < 64 := by omega
              have nv := nth_out F i 3 hlt (by decide)
              rw [hX, hSm, ← hq] at nv
              have st := oO.set (q + 3) (Sm / 256 ^ 3 % 256)
              rw [← nv, prn_next (blockOf_length F) (by omega)] at st
              rw [nv] at st
              have ho' := ho.set (q + 3) (.int .u8 (Sm / 256 ^ 3 % 256 : Nat))
              have wv : IntKind.u8.wrap ((Sm : Int) / 16777216) = ((Sm / 256 ^ 3 % 256 : Nat) : Int) := by
                have : (256 : Nat) ^ 3 = 16777216 := by decide
                rw [this]; rfl
              generalize hp : q + 3 = p at *
              generalize hvv : Sm / 256 ^ 3 % 256 = vv at *
              have HP := Lib.hid hp
              clear hp nv hvv hX hSm hl hq
              simp only [show ((3 : Nat) : Int) = 3 from rfl]
              go_wp2_with fail
              go_roundw
              case rel => refine ⟨4, by omega, rfl, ?_, ho'⟩; rw [show q + 4 = p + 1 from by rw [← HP.out]]; exact st
              case measure => simp [intOf]
            · have HQ := Lib.hid hq
              clear hX hSm hq
              simp only [show ((4 : Nat) : Int) = 4 from rfl]
              go_wp2_with fail
              go_roundw
              case rel => refine ⟨i + 1, by omega, by go_num, ?_, ho⟩; rw [show 4 * (i + 1) = q + 4 from by rw [HQ.out]; omega]; exact oO
              case measure => simp [intOf]; omega
        · obtain rfl : i = 16 := by omega
          rw [show 4 * 16 = 64 from rfl, prn_all (blockOf_length F)] at oO
          have oR := ho.own HK.out.2.1 (by rw [HH.out]; omega)
          have hb := HK.out.2.2.2.trans (ho.below (by rw [HH.out]; omega))
          go_wp2_with (first | (refine ld t27 rfl rfl rfl oO (blockOf_length F) ?_) | (refine sto t27 rfl rfl rfl rfl oR (by simp) (blockOf_length F) ?_))
          refine ret_arr t27 rfl rfl (oR.row _) (blockOf_length F) rfl ⟨?_, below_row hb (by omega) _⟩
          show _ = Ending.returned (.agg (vs .u8 (Ch.blockOf (Ch.first K N n))))
          rw [HFF.out]
end Go.Proofs.YtaoaebdjinlcnaaDoor.Ci
