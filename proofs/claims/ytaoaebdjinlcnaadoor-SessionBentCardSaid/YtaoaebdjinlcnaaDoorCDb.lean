/-
  THE WALK of a block, of the document's answer.
-/
import Derived.Test.YtaoaebdjinlcnaaDoorCDw
set_option linter.unusedVariables false
set_option linter.unusedSimpArgs false
set_option maxRecDepth 100000
namespace Go.Proofs.YtaoaebdjinlcnaaDoor.Ci
open Go.RowKit
theorem quietS {P : Program} {f : FuncId} {args : Array Value} {w : World} {n : Nat} {v : Value}
    (h : Calls P f args (w.drewN n) fun e w' => e = .returned v ∧ w.drewN n = w') : Calls P f args (w.drewN n) fun e w'' => e = .returned v ∧ ∃ m, w'' = w.drewN m :=
  h.mono fun _ _ ⟨he, hm⟩ => ⟨he, n, hm.symm⟩
set_option maxRecDepth 100000 in
set_option maxHeartbeats 8000000 in
theorem rblock_any (K N : List Nat) (n : Nat) (hK : Ch.By K) (hN : Ch.By N) (lK : K.length = 32) (lN : N.length = 12) (hn : n < 4294967296) (w : World) :
    Calls Tryd.prog 69 #[.agg (vs .u8 K), .agg (vs .u8 N), .int .u32 n] w fun e w' => e = .returned (.agg (vs .u8 (Ch.block K N n))) ∧ Below w.heap.size w w' := by
  obtain ⟨F, hF⟩ : ∃ F, F = Ch.first K N n := ⟨_, rfl⟩
  have lF : F.length = 16 := by rw [hF]; rfl
  have hW : Ch.Wd F := by rw [hF]; exact Ch.Wd.first hK hN hn
  have F12 : Ch.nth F 12 = n := by rw [hF]; rfl
  have F4 : vs .u64 (prn 16 F (4 + 0)) = #[.int .u64 1634760805, .int .u64 857760878, .int .u64 2036477234, .int .u64 1797285236, .int .u64 0, .int .u64 0, .int .u64 0, .int .u64 0, .int .u64 0, .int .u64 0, .int .u64 0, .int .u64 0, .int .u64 0, .int .u64 0, .int .u64 0, .int .u64 0] := by rw [hF]; rfl
  obtain ⟨W0, hW0⟩ : ∃ W0, W0 = ((((w.alloc (Obj.cells (vs .u8 K) 24)).alloc (Obj.cells (vs .u8 N) 54)).alloc (Obj.cells (vs .u8 (List.replicate 64 0)) 90)).alloc (Obj.cells #[.int .u64 1634760805, .int .u64 857760878, .int .u64 2036477234, .int .u64 1797285236, .int .u64 0, .int .u64 0, .int .u64 0, .int .u64 0, .int .u64 0, .int .u64 0, .int .u64 0, .int .u64 0, .int .u64 0, .int .u64 0, .int .u64 0, .int .u64 0] 102)) := ⟨_, rfl⟩
  have o0 : Own W0 w.heap.size 24 (vs .u8 K) := by rw [hW0]; exact (((Own.new' _ _ _ rfl).alloc _).alloc _).alloc _
  have o1 : Own W0 (w.heap.size + 1) 54 (vs .u8 N) := by rw [hW0]; exact ((Own.new' _ _ _ (by simp)).alloc _).alloc _
  have o2 : Own W0 (w.heap.size + 1 + 1) 90 (vs .u8 (List.replicate 64 0)) := by rw [hW0]; exact (Own.new' _ _ _ (by simp)).alloc _
  have o3 : Own W0 (w.heap.size + 1 + 1 + 1) 102 (vs .u64 (prn 16 F (4 + 0))) := by rw [hW0, F4]; exact Own.new' _ _ _ (by simp)
  have hb0 : Below w.heap.size w W0 := by rw [hW0]; exact ((((Below.refl _ w).alloc (by simp) _).alloc (by simp) _).alloc (by simp; omega) _).alloc (by simp; omega) _
  have z0 : W0.heap.size = w.heap.size + 1 + 1 + 1 + 1 := by rw [hW0]; simp
  have HW0 := Lib.hid hW0
  have HZ := Lib.hid z0
  clear z0
  have HF := Lib.hid hF
  have HF12 := Lib.hid F12
  clear hW0 hF F4 F12
  go_enter Tryd.func69, Tryd.ntmps69
  go_wp2_with fail
  change Code.wp _ _ _ _ ((((w.alloc (Obj.cells (vs .u8 K) 24)).alloc (Obj.cells (vs .u8 N) 54)).alloc (Obj.cells (vs .u8 (List.replicate 64 0)) 90)).alloc (Obj.cells #[.int .u64 1634760805, .int .u64 857760878, .int .u64 2036477234, .int .u64 1797285236, .int .u64 0, .int .u64 0, .int .u64 0, .int .u64 0, .int .u64 0, .int .u64 0, .int .u64 0, .int .u64 0, .int .u64 0, .int .u64 0, .int .u64 0, .int .u64 0] 102))
  rw [← HW0.out]
  clear HW0
  obtain ⟨B3, hB3⟩ : ∃ b, b = w.heap.size + 1 + 1 + 1 := ⟨_, rfl⟩
  rw [← hB3] at o3 ⊢
  have HB := Lib.hid hB3
  have HX := Lib.hid (And.intro o0 (And.intro o1 (And.intro o2 hb0)))
  clear hB3 o0 o1 o2 hb0
  generalize W0 = wx at *
  go_loopw [8] (fun i wr => ∃ k : Nat, k ≤ 8 ∧ i = .int .i64 k ∧ Own wr B3 102 (vs .u64 (prn 16 F (4 + k))) ∧ Only B3 wx wr) (fun i _ => 8 - (intOf i).toNat)
  case atStart => exact ⟨0, by omega, rfl, o3, Only.refl _ _⟩
  case round =>
    clear o3
    obtain ⟨k, hk, rfl, oS, ho⟩ := hrel
    generalize wr = wo at *
    by_cases hlt : k < 8
    · have oK := ho.own HX.out.1 (by rw [HB.out]; omega)
      have hcv := fun m => bs_conv (wo.drewN m) _ _ K 32 lK oK
      have hcv0 := bs_conv wo _ _ K 32 lK oK
      obtain ⟨q0, hq0⟩ : ∃ q, q = 4 * k := ⟨_, rfl⟩
      obtain ⟨q4, hq4⟩ : ∃ q, q = 4 + k := ⟨_, rfl⟩
      have e0 : IntKind.i64.wrap (4 * (k : Int)) = (q0 : Int) := by rw [IntWalk.i64_in _ (by omega)]; omega
      have e4 : IntKind.i64.wrap (4 + (k : Int)) = (q4 : Int) := by rw [IntWalk.i64_in _ (by omega)]; omega
      have i4 : (q4 : Int) < 16 := by omega
      have hkI : (k : Int) < 8 := by omega
      rw [← hq4] at oS
      have hr := fun w => rword_any K hK q0 (by omega) (by omega) w
      have hwd : Ch.word K q0 = Ch.nth F q4 := by rw [hq0, hq4, HF.out, first_key K N n k hlt]
      have bw := hK.word q0
      rw [hwd] at hr bw
      have HQ := Lib.hid hq4
      clear hq0 hq4 hwd oK
      go_wp2_with fail
      refine (hr _).mono ?_
      rintro e w3 ⟨rfl, m, rfl⟩
      have hl := prn_length lF (i := q4) (by have := HQ.out; omega)
      have oS' : Own (wo.drewN m) B3 102 (vs .u64 (prn 16 F q4)) := oS
      have ho' : Only B3 wx (wo.drewN m) := ⟨ho.os, ho.tape, ho.output, ho.size, ho.block⟩
      have c1 := oS'.cell (i := q4) (by omega)
      have z1 := oS'.frozen q4
      have st := oS'.set q4 (Ch.nth F q4)
      rw [prn_next lF (by omega)] at st
      have sb := ho'.set q4 (.int .u64 (Ch.nth F q4 : Nat))
      clear hl hcv hcv0 hr oS ho oS' ho'
      go_wp2_with fail
      go_roundw
      case rel => refine ⟨k + 1, by omega, by go_num, ?_, sb⟩; rw [show 4 + (k + 1) = q4 + 1 from by rw [HQ.out]; omega]; exact st
      case measure => simp [intOf]; omega
    · obtain rfl : k = 8 := by omega
      simp only [show ((8 : Nat) : Int) = 8 from rfl]
      rw [show (4 + 8 : Nat) = 12 from rfl] at oS
      have hl := prn_length lF (i := 12) (by decide)
      have c1 := oS.cell (i := 12) (by omega)
      have z1 := oS.frozen 12
      have st := oS.set 12 (Ch.nth F 12)
      rw [prn_next lF (by decide), HF12.out] at st
      have sb := ho.set 12 (.int .u64 (n : Nat))
      have hnw : IntKind.u64.wrap (n : Int) = (n : Int) := u64w (by omega) (by omega)
      clear hl oS ho
      go_wp2_with fail
      clear c1 z1 hnw
      generalize wo.setCell ⟨B3, 12, none⟩ (.int .u64 (n : Nat)) = w4 at *
      go_loopw [9] (fun i wr => ∃ k : Nat, k ≤ 3 ∧ i = .int .i64 k ∧ Own wr B3 102 (vs .u64 (prn 16 F (13 + k))) ∧ Only B3 wx wr) (fun i _ => 3 - (intOf i).toNat)
      case atStart => exact ⟨0, by omega, rfl, st, sb⟩
      case round =>
        clear st sb
        obtain ⟨k, hk, rfl, oS, ho⟩ := hrel
        generalize wr = wo at *
        by_cases hlt : k < 3
        · have oN := ho.own HX.out.2.1 (by rw [HB.out]; omega)
          have hcv := fun m => bs_conv (wo.drewN m) _ _ N 12 lN oN
          have hcv0 := bs_conv wo _ _ N 12 lN oN
          obtain ⟨q0, hq0⟩ : ∃ q, q = 4 * k := ⟨_, rfl⟩
          obtain ⟨q4, hq4⟩ : ∃ q, q = 13 + k := ⟨_, rfl⟩
          have e0 : IntKind.i64.wrap (4 * (k : Int)) = (q0 : Int) := by rw [IntWalk.i64_in _ (by omega)]; omega
          have e4 : IntKind.i64.wrap (13 + (k : Int)) = (q4 : Int) := by rw [IntWalk.i64_in _ (by omega)]; omega
          have i4 : (q4 : Int) < 16 := by omega
          have hkI : (k : Int) < 3 := by omega
          rw [← hq4] at oS
          have hr := fun w => rword_any N hN q0 (by omega) (by omega) w
          have hwd : Ch.word N q0 = Ch.nth F q4 := by rw [hq0, hq4, HF.out, first_nonce K N n k hlt]
          have bw := hN.word q0
          rw [hwd] at hr bw
          have HQ := Lib.hid hq4
          clear hq0 hq4 hwd oN
          go_wp2_with fail
          refine (hr _).mono ?_
          rintro e w3 ⟨rfl, m, rfl⟩
          have hl := prn_length lF (i := q4) (by have := HQ.out; omega)
          have oS' : Own (wo.drewN m) B3 102 (vs .u64 (prn 16 F q4)) := oS
          have ho' : Only B3 wx (wo.drewN m) := ⟨ho.os, ho.tape, ho.output, ho.size, ho.block⟩
          have c1 := oS'.cell (i := q4) (by omega)
          have z1 := oS'.frozen q4
          have st := oS'.set q4 (Ch.nth F q4)
          rw [prn_next lF (by omega)] at st
          have sb := ho'.set q4 (.int .u64 (Ch.nth F q4 : Nat))
          clear hl hcv hcv0 hr oS ho oS' ho'
          go_wp2_with fail
          go_roundw
          case rel => refine ⟨k + 1, by omega, by go_num, ?_, sb⟩; rw [show 13 + (k + 1) = q4 + 1 from by rw [HQ.out]; omega]; exact st
          case measure => simp [intOf]; omega
        · obtain rfl : k = 3 := by omega
          simp only [show ((3 : Nat) : Int) = 3 from rfl]
          rw [show (13 + 3 : Nat) = 16 from rfl, prn_all lF] at oS
          go_wp2_with (first | (refine ld t43 rfl rfl rfl oS lF ?_) | (refine sto_new t43 rfl rfl rfl (by simp) rfl rfl lF ?_))
          have o3 := oS.alloc (Obj.cells (vs .u64 F) 102)
          have o2 := (ho.own HX.out.2.2.1 (by rw [HB.out]; omega)).alloc (Obj.cells (vs .u64 F) 102)
          have hb := (HX.out.2.2.2.trans (ho.below (by rw [HB.out]; omega))).alloc (by rw [ho.size]; have := HZ.out; omega) (Obj.cells (vs .u64 F) 102)
          have oX : Own (wo.alloc (Obj.cells (vs .u64 F) 102)) wo.heap.size 102 (vs .u64 F) := Own.new _ _ _
          have hH : wo.heap.size = B3 + 1 := by rw [ho.size]; have := HZ.out; have := HB.out; omega
          have hHz : (wo.alloc (Obj.cells (vs .u64 F) 102)).heap.size = wo.heap.size + 1 := by simp
          generalize (wo.alloc (Obj.cells (vs .u64 F) 102)) = wz at *
          generalize wo.heap.size = H at *
          have HH := Lib.hid hH
          have HK := Lib.hid (And.intro o3 (And.intro o2 (And.intro hb hHz)))
          clear oS ho hH o3 o2 hb hHz
          go_loopw [11] (fun i wr => ∃ k : Nat, k ≤ 10 ∧ i = .int .i64 k ∧ Own wr H 102 (vs .u64 (Ch.rounds F k)) ∧ Below H wz wr) (fun i _ => 10 - (intOf i).toNat)
          case atStart => exact ⟨0, by omega, rfl, oX, Below.refl _ _⟩
          case round =>
            clear oX
            obtain ⟨k, hk, rfl, oX, hbz⟩ := hrel
            have hWk := hW.rounds k
            by_cases hlt : k < 10
            · generalize hSk : Ch.rounds F k = S at *
              have HS := Lib.hid hSk
              clear hSk
              generalize wr = wo at *
              have hkI : (k : Int) < 10 := by omega
              go_wp2_with fail
              go_loopw [12] (fun i wr => ∃ j : Nat, j ≤ 4 ∧ i = .int .i64 j ∧ Own wr H 102 (vs .u64 (Ch.cols S j)) ∧ Below H wz wr) (fun i _ => 4 - (intOf i).toNat)
              case atStart => exact ⟨0, by omega, rfl, oX, hbz⟩
              case round =>
                clear oX hbz
                obtain ⟨j, hj, rfl, oX, hbz⟩ := hrel
                generalize wr = wo at *
                by_cases hjt : j < 4
                · have hjI : (j : Int) < 4 := by omega
                  have e1 : IntKind.i64.wrap (4 + (j : Int)) = 4 + (j : Int) := IntWalk.i64_in _ (by omega)
                  have e2 : IntKind.i64.wrap (8 + (j : Int)) = 8 + (j : Int) := IntWalk.i64_in _ (by omega)
                  have e3 : IntKind.i64.wrap (12 + (j : Int)) = 12 + (j : Int) := IntWalk.i64_in _ (by omega)
                  have lX := (hWk.cols j).1
                  go_wp2_with (refine ld t43 rfl rfl rfl oX lX ?_)
                  refine (rstep_any (Ch.cols S j) (hWk.cols j) j (4 + j) (8 + j) (12 + j) _ (by omega) (by omega) (by omega) (by omega)).mono ?_
                  rintro e w3 ⟨rfl, hx⟩
                  have p1 := Below.own hx oX oX.lt
                  have lS' := ((hWk.cols j).step j (4 + j) (8 + j) (12 + j)).1
                  have st := p1.row (vs .u64 (Ch.step (Ch.cols S j) j (4 + j) (8 + j) (12 + j)))
                  have sb := below_row (hbz.trans (hx.mono (Nat.le_of_lt oX.lt))) (Nat.le_refl _) (vs .u64 (Ch.step (Ch.cols S j) j (4 + j) (8 + j) (12 + j)))
                  clear hx oX hbz
                  go_wp2_with (refine sto t43 rfl rfl rfl rfl p1 lX lS' ?_)
                  go_roundw
                  case rel => exact ⟨j + 1, by omega, by go_num, st, sb⟩
                  case measure => simp [intOf]; omega
                · obtain rfl : j = 4 := by omega
                  simp only [show ((4 : Nat) : Int) = 4 from rfl]
                  go_wp2_with fail
                  go_loopw [13] (fun i wr => ∃ j : Nat, j ≤ 4 ∧ i = .int .i64 j ∧ Own wr H 102 (vs .u64 (Ch.diags (Ch.cols S 4) j)) ∧ Below H wz wr) (fun i _ => 4 - (intOf i).toNat)
                  case atStart => exact ⟨0, by omega, rfl, oX, hbz⟩
                  case round =>
                    clear oX hbz
                    obtain ⟨j, hj, rfl, oX, hbz⟩ := hrel
                    generalize wr = wo at *
                    rcases (show j = 0 ∨ j = 1 ∨ j = 2 ∨ j = 3 ∨ j = 4 from by omega) with rfl | rfl | rfl | rfl | rfl
                    · simp only [show ((0 : Nat) : Int) = 0 from rfl]
                      have lX := ((hWk.cols 4).diags 0).1
                      go_wp2_with (refine ld t43 rfl rfl rfl oX lX ?_)
                      refine (rstep_any (Ch.diags (Ch.cols S 4) 0) ((hWk.cols 4).diags 0) 0 5 10 15 _ (by decide) (by decide) (by decide) (by decide)).mono ?_
                      rintro e w3 ⟨rfl, hx⟩
                      have p1 := Below.own hx oX oX.lt
                      have lS' := (((hWk.cols 4).diags 0).step 0 5 10 15).1
                      have st := p1.row (vs .u64 (Ch.step (Ch.diags (Ch.cols S 4) 0) 0 5 10 15))
                      have sb := below_row (hbz.trans (hx.mono (Nat.le_of_lt oX.lt))) (Nat.le_refl _) (vs .u64 (Ch.step (Ch.diags (Ch.cols S 4) 0) 0 5 10 15))
                      clear hx oX hbz
                      go_wp2_with (refine sto t43 rfl rfl rfl rfl p1 lX lS' ?_)
                      go_roundw
                      case rel => exact ⟨1, by omega, rfl, st, sb⟩
                      case measure => simp [intOf]
                    · simp only [show ((1 : Nat) : Int) = 1 from rfl]
                      have lX := ((hWk.cols 4).diags 1).1
                      go_wp2_with (refine ld t43 rfl rfl rfl oX lX ?_)
                      refine (rstep_any (Ch.diags (Ch.cols S 4) 1) ((hWk.cols 4).diags 1) 1 6 11 12 _ (by decide) (by decide) (by decide) (by decide)).mono ?_
                      rintro e w3 ⟨rfl, hx⟩
                      have p1 := Below.own hx oX oX.lt
                      have lS' := (((hWk.cols 4).diags 1).step 1 6 11 12).1
                      have st := p1.row (vs .u64 (Ch.step (Ch.diags (Ch.cols S 4) 1) 1 6 11 12))
                      have sb := below_row (hbz.trans (hx.mono (Nat.le_of_lt oX.lt))) (Nat.le_refl _) (vs .u64 (Ch.step (Ch.diags (Ch.cols S 4) 1) 1 6 11 12))
                      clear hx oX hbz
                      go_wp2_with (refine sto t43 rfl rfl rfl rfl p1 lX lS' ?_)
                      go_roundw
                      case rel => exact ⟨2, by omega, rfl, st, sb⟩
                      case measure => simp [intOf]
                    · simp only [show ((2 : Nat) : Int) = 2 from rfl]
                      have lX := ((hWk.cols 4).diags 2).1
                      go_wp2_with (refine ld t43 rfl rfl rfl oX lX ?_)
                      refine (rstep_any (Ch.diags (Ch.cols S 4) 2) ((hWk.cols 4).diags 2) 2 7 8 13 _ (by decide) (by decide) (by decide) (by decide)).mono ?_
                      rintro e w3 ⟨rfl, hx⟩
                      have p1 := Below.own hx oX oX.lt
                      have lS' := (((hWk.cols 4).diags 2).step 2 7 8 13).1
                      have st := p1.row (vs .u64 (Ch.step (Ch.diags (Ch.cols S 4) 2) 2 7 8 13))
                      have sb := below_row (hbz.trans (hx.mono (Nat.le_of_lt oX.lt))) (Nat.le_refl _) (vs .u64 (Ch.step (Ch.diags (Ch.cols S 4) 2) 2 7 8 13))
                      clear hx oX hbz
                      go_wp2_with (refine sto t43 rfl rfl rfl rfl p1 lX lS' ?_)
                      go_roundw
                      case rel => exact ⟨3, by omega, rfl, st, sb⟩
                      case measure => simp [intOf]
                    · simp only [show ((3 : Nat) : Int) = 3 from rfl]
                      have lX := ((hWk.cols 4).diags 3).1
                      go_wp2_with (refine ld t43 rfl rfl rfl oX lX ?_)
                      refine (rstep_any (Ch.diags (Ch.cols S 4) 3) ((hWk.cols 4).diags 3) 3 4 9 14 _ (by decide) (by decide) (by decide) (by decide)).mono ?_
                      rintro e w3 ⟨rfl, hx⟩
                      have p1 := Below.own hx oX oX.lt
                      have lS' := (((hWk.cols 4).diags 3).step 3 4 9 14).1
                      have st := p1.row (vs .u64 (Ch.step (Ch.diags (Ch.cols S 4) 3) 3 4 9 14))
                      have sb := below_row (hbz.trans (hx.mono (Nat.le_of_lt oX.lt))) (Nat.le_refl _) (vs .u64 (Ch.step (Ch.diags (Ch.cols S 4) 3) 3 4 9 14))
                      clear hx oX hbz
                      go_wp2_with (refine sto t43 rfl rfl rfl rfl p1 lX lS' ?_)
                      go_roundw
                      case rel => exact ⟨4, by omega, rfl, st, sb⟩
                      case measure => simp [intOf]
                    · simp only [show ((4 : Nat) : Int) = 4 from rfl]
                      go_wp2_with fail
                      go_roundw
                      case rel => refine ⟨k + 1, by omega, by go_num, ?_, hbz⟩; show Own _ _ _ (vs .u64 (Ch.diags (Ch.cols (Ch.rounds F k) 4) 4)); rw [HS.out]; exact oX
                      case measure => simp [intOf]; omega
            · obtain rfl : k = 10 := by omega
              simp only [show ((10 : Nat) : Int) = 10 from rfl]
              generalize wr = wo at *
              go_wp2_with (refine sto_new t27 (k := .u8) (l := List.replicate 64 0) rfl rfl rfl rfl rfl rfl rfl ?_)
              change Code.wp _ _ _ _ (wo.alloc (Obj.cells (vs .u8 (List.replicate 64 0)) 90))
              have hHlt := oX.lt
              have oB := Below.own hbz HK.out.1 (by rw [HH.out]; omega)
              have oR := Below.own hbz HK.out.2.1 (by rw [HH.out, HB.out]; omega)
              have hb := HK.out.2.2.1.trans (hbz.mono (by rw [HH.out, HB.out]; omega))
              have hsz := hb.size
              replace oB := oB.alloc (Obj.cells (vs .u8 (List.replicate 64 0)) 90)
              replace oR := oR.alloc (Obj.cells (vs .u8 (List.replicate 64 0)) 90)
              replace oX := oX.alloc (Obj.cells (vs .u8 (List.replicate 64 0)) 90)
              replace hb := hb.alloc hsz (Obj.cells (vs .u8 (List.replicate 64 0)) 90)
              have oO : Own (wo.alloc (Obj.cells (vs .u8 (List.replicate 64 0)) 90)) wo.heap.size 90 (vs .u8 (prn 64 (Ch.blockOf F) 0)) := by rw [prn_zero]; exact Own.new' _ _ _ rfl
              clear hbz hsz
              generalize (wo.alloc (Obj.cells (vs .u8 (List.replicate 64 0)) 90)) = wy at *
              generalize wo.heap.size = Z at *
              have n1 : B3 ≠ Z := by have := HH.out; omega
              have n2 : w.heap.size + 1 + 1 ≠ Z := by have := HH.out; have := HB.out; omega
              have n3 : H ≠ Z := by omega
              have n4 : w.heap.size ≤ Z := by have := HH.out; have := HB.out; omega
              have HN := Lib.hid (And.intro n1 (And.intro n2 (And.intro n3 n4)))
              clear n1 n2 n3 n4 hHlt
              generalize hX : Ch.rounds F 10 = X at *
              have fX : X.length = 16 := hWk.1
              have wX : Ch.Wd X := hWk
              have HXX := Lib.hid hX
              clear hX hWk
              have HY := Lib.hid (And.intro oB (And.intro oR (And.intro oX hb)))
              clear oB oR oX hb
              go_loopw [15] (fun i' wr => ∃ i : Nat, i ≤ 16 ∧ i' = .int .i64 i ∧ Own wr Z 90 (vs .u8 (prn 64 (Ch.blockOf F) (4 * i))) ∧ Only Z wy wr) (fun i _ => 16 - (intOf i).toNat)
              case atStart => exact ⟨0, by omega, rfl, oO, Only.refl _ _⟩
              case round =>
                clear oO
                obtain ⟨i, hi, rfl, oO, ho⟩ := hrel
                generalize wr = wo at *
                by_cases hlt : i < 16
                · have oB := ho.own HY.out.1 HN.out.1
                  have oW := ho.own HY.out.2.2.1 HN.out.2.2.1
                  have c1 := oB.cell (i := i) (by omega)
                  have c2 := oW.cell (i := i) (by omega)
                  have iI : (i : Int) < 16 := by omega
                  have hcal := fun w => add_any (Ch.nth X i) (Ch.nth F i) w (wX.nth _) (hW.nth _)
                  have bS := add_bd (Ch.nth X i) (Ch.nth F i)
                  generalize hSm : Ch.add (Ch.nth X i) (Ch.nth F i) = Sm at *
                  have HSm := Lib.hid hSm
                  clear hSm
                  go_wp2_with fail
                  go_quiet ((go_at_call 80; exact quietS (hcal _)))
                  clear c1 c2 oB oW hcal
                  have oO' : Own (wo.drewN nq) Z 90 (vs .u8 (prn 64 (Ch.blockOf F) (4 * i))) := oO
                  have ho' : Only Z wy (wo.drewN nq) := ⟨ho.os, ho.tape, ho.output, ho.size, ho.block⟩
                  clear oO ho
                  generalize wo.drewN nq = wp at *
                  obtain ⟨q, hq⟩ : ∃ q, q = 4 * i := ⟨_, rfl⟩
                  have e2 : IntKind.i64.wrap (4 * (i : Int)) = (q : Int) := by rw [IntWalk.i64_in _ (by omega)]; omega
                  have bq : q ≤ 60 := by omega
                  rw [← hq] at oO'
                  have HQ := Lib.hid hq
                  clear hq
                  go_wp2_with fail
                  go_loopw [16, 17] (fun y' j' wr => ∃ j : Nat, j ≤ 4 ∧ j' = .int .i64 j ∧ y' = .int .u64 (Sm / 256 ^ j : Nat) ∧ Own wr Z 90 (vs .u8 (prn 64 (Ch.blockOf F) (q + j))) ∧ Only Z wy wr) (fun _ j _ => 4 - (intOf j).toNat)
                  case atStart => exact ⟨0, by omega, rfl, by rw [Nat.pow_zero, Nat.div_one], oO', ho'⟩
                  case round =>
                    clear oO' ho'
                    obtain ⟨j, hj, rfl, rfl, oO, ho⟩ := hrel
                    generalize wr = wo at *
                    by_cases hjt : j < 4
                    · have nv := nth_out F i j hlt hjt
                      rw [HXX.out, HSm.out, ← HQ.out] at nv
                      have yn : Sm / 256 ^ (j + 1) = Sm / 256 ^ j / 256 := by rw [Nat.pow_succ, Nat.div_div_eq_div_mul]
                      have by1 : Sm / 256 ^ j < 4294967296 := Nat.lt_of_le_of_lt (Nat.div_le_self _ _) bS
                      have st := oO.set (q + j) (Sm / 256 ^ j % 256)
                      have hl := prn_length (blockOf_length F) (i := q + j) (by omega)
                      have c1 := oO.cell (i := q + j) (by omega)
                      have z1 := oO.frozen (q + j)
                      rw [← nv, prn_next (blockOf_length F) (by omega), nv] at st
                      have sb := ho.set (q + j) (.int .u8 (Sm / 256 ^ j % 256 : Nat))
                      have HYN := Lib.hid yn
                      clear yn nv hl oO ho
                      generalize Sm / 256 ^ j = Y at *
                      have wv : IntKind.u8.wrap ((Y : Int) % 256) = ((Y % 256 : Nat) : Int) := by rw [IntWalk.u8_in _ (by omega)]; rfl
                      have e3 : IntKind.i64.wrap ((q : Int) + (j : Int)) = ((q + j : Nat) : Int) := by rw [IntWalk.i64_in _ (by omega)]; rfl
                      generalize hp : q + j = p at *
                      have ib : (p : Int) < 64 := by omega
                      generalize hvv : Y % 256 = vv at *
                      have hjI : (j : Int) < 4 := by omega
                      have HP := Lib.hid hp
                      clear hp hvv
                      go_wp2_with fail
                      go_roundw
                      case rel => refine ⟨j + 1, by omega, by go_num, ?_, ?_, sb⟩; (rw [HYN.out]; rfl); rw [show q + (j + 1) = p + 1 from by rw [← HP.out]; omega]; exact st
                      case measure => simp [intOf]; omega
                    · obtain rfl : j = 4 := by omega
                      simp only [show ((4 : Nat) : Int) = 4 from rfl]
                      go_wp2_with fail
                      go_roundw
                      case rel => refine ⟨i + 1, by omega, by go_num, ?_, ho⟩; rw [show 4 * (i + 1) = q + 4 from by rw [HQ.out]; omega]; exact oO
                      case measure => simp [intOf]; omega
                · obtain rfl : i = 16 := by omega
                  rw [show 4 * 16 = 64 from rfl, prn_all (blockOf_length F)] at oO
                  have oR := ho.own HY.out.2.1 HN.out.2.1
                  have hb := HY.out.2.2.2.trans (ho.below HN.out.2.2.2)
                  go_wp2_with (first | (refine ld t27 rfl rfl rfl oO (blockOf_length F) ?_) | (refine sto t27 rfl rfl rfl rfl oR (by simp) (blockOf_length F) ?_))
                  refine ret_arr t27 rfl rfl (oR.row _) (blockOf_length F) rfl ⟨?_, below_row hb (by omega) _⟩
                  rw [HF.out]
                  rfl
end Go.Proofs.YtaoaebdjinlcnaaDoor.Ci
