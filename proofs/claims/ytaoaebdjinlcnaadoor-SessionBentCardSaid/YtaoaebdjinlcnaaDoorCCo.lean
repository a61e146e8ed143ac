/-
  THE WALK of the sixteen words with which a block begins, of the code.
-/
import Derived.Test.YtaoaebdjinlcnaaDoorCCa
set_option linter.unusedVariables false
set_option linter.unusedSimpArgs false
set_option maxRecDepth 100000
namespace Go.Proofs.YtaoaebdjinlcnaaDoor.Ci
open Go.RowKit
/-- the first i numbers of sixteen, and zeros -/
def pre (F : List Nat) (i : Nat) : List Nat := F.take i ++ List.replicate (16 - i) 0
theorem pre_length {F : List Nat} (h : F.length = 16) {i : Nat} (hi : i ≤ 16) : (pre F i).length = 16 := by simp [pre, h]; omega
theorem pre_next {F : List Nat} (h : F.length = 16) {i : Nat} (hi : i < 16) : (pre F i).set i (Ch.nth F i) = pre F (i + 1) := by
  have e : 16 - i = (16 - (i + 1)) + 1 := by omega
  have l : (F.take i).length = i := by rw [List.length_take]; omega
  unfold pre
  rw [e, List.replicate_succ, List.set_append_right _ _ (by omega), l, Nat.sub_self, List.set_cons_zero, List.take_succ_eq_append_getElem (by omega), Ch.nth_lt (by omega), List.append_assoc]
  rfl
theorem pre_all {F : List Nat} (h : F.length = 16) : pre F 16 = F := by unfold pre; rw [List.take_of_length_le (by omega)]; simp
theorem pre_nine {K N : List Nat} {n : Nat} : pre (Ch.first K N n) 4 = [1634760805, 857760878, 2036477234, 1797285236, 0, 0, 0, 0, 0, 0, 0, 0, 0, 0, 0, 0] := rfl
theorem first_key (K N : List Nat) (n i : Nat) (h : i < 8) : Ch.nth (Ch.first K N n) (4 + i) = Ch.word K (4 * i) := by
  match i, h with
  | 0, _ => rfl
  | 1, _ => rfl
  | 2, _ => rfl
  | 3, _ => rfl
  | 4, _ => rfl
  | 5, _ => rfl
  | 6, _ => rfl
  | 7, _ => rfl
theorem first_nonce (K N : List Nat) (n i : Nat) (h : i < 3) : Ch.nth (Ch.first K N n) (13 + i) = Ch.word N (4 * i) := by
  match i, h with
  | 0, _ => rfl
  | 1, _ => rfl
  | 2, _ => rfl
theorem first_n (K N : List Nat) (n : Nat) : Ch.nth (Ch.first K N n) 12 = n := rfl
theorem first_length (K N : List Nat) (n : Nat) : (Ch.first K N n).length = 16 := rfl
set_option maxRecDepth 100000 in
set_option maxHeartbeats 2000000 in
theorem words_any (K N : List Nat) (n : Nat) (hK : Ch.By K) (hN : Ch.By N) (lK : K.length = 32) (lN : N.length = 12) (hn : n < 4294967296) (w : World) :
    Calls Tryd.prog 89 #[.agg (vs .u8 K), .agg (vs .u8 N), .int .u32 n] w fun e w' => e = .returned (.agg (vs .u32 (Ch.first K N n))) ∧ Below w.heap.size w w' := by
  have hF := first_length K N n
  have F4 : (vs .u32 (pre (Ch.first K N n) 4)) = vs .u32 [1634760805, 857760878, 2036477234, 1797285236, 0, 0, 0, 0, 0, 0, 0, 0, 0, 0, 0, 0] := rfl
  go_enter Tryd.func89, Tryd.ntmps89
  go_wp2
  go_loopw [11] (fun i wr => ∃ k : Nat, k ≤ 8 ∧ i = .int .i64 k ∧ Own wr w.heap.size 24 (vs .u8 K) ∧ Own wr (w.heap.size + 1) 54 (vs .u8 N) ∧ (∃ Z : List Nat, Z.length = 16 ∧ Own wr (w.heap.size + 1 + 1) 110 (vs .u32 Z)) ∧ Own wr (w.heap.size + 1 + 1 + 1) 110 (vs .u32 (pre (Ch.first K N n) (4 + k))) ∧ Below w.heap.size w wr) (fun i _ => 8 - (intOf i).toNat)
  case atStart =>
    refine ⟨0, by omega, rfl, ?_, ?_, ⟨List.replicate 16 0, rfl, ?_⟩, ?_, ?_⟩
    · exact (((Own.new' _ _ _ rfl).alloc _).alloc _).alloc _
    · exact ((Own.new' _ _ _ (by simp)).alloc _).alloc _
    · exact (Own.new' _ _ _ (by simp)).alloc _
    · exact Own.new' _ _ _ (by simp)
    · exact ((((Below.refl _ w).alloc (by simp) _).alloc (by simp) _).alloc (by simp; omega) _).alloc (by simp; omega) _
  case round =>
    obtain ⟨k, hk, rfl, oK, oN, ⟨Z, lZ, oZ⟩, oS, hb⟩ := hrel
    by_cases hlt : k < 8
    · obtain ⟨q0, hq0⟩ : ∃ q, q = 4 * k := ⟨_, rfl⟩
      obtain ⟨q1, hq1⟩ : ∃ q, q = 4 * k + 1 := ⟨_, rfl⟩
      obtain ⟨q2, hq2⟩ : ∃ q, q = 4 * k + 2 := ⟨_, rfl⟩
      obtain ⟨q3, hq3⟩ : ∃ q, q = 4 * k + 3 := ⟨_, rfl⟩
      obtain ⟨q4, hq4⟩ : ∃ q, q = 4 + k := ⟨_, rfl⟩
      have e0 : IntKind.i64.wrap (4 * (k : Int)) = (q0 : Int) := by rw [IntWalk.i64_in _ (by omega)]; omega
      have e1 : IntKind.i64.wrap ((q0 : Int) + 1) = (q1 : Int) := by rw [IntWalk.i64_in _ (by omega)]; omega
      have e2 : IntKind.i64.wrap ((q0 : Int) + 2) = (q2 : Int) := by rw [IntWalk.i64_in _ (by omega)]; omega
      have e3 : IntKind.i64.wrap ((q0 : Int) + 3) = (q3 : Int) := by rw [IntWalk.i64_in _ (by omega)]; omega
      have e4 : IntKind.i64.wrap (4 + (k : Int)) = (q4 : Int) := by rw [IntWalk.i64_in _ (by omega)]; omega
      have i0 : (q0 : Int) < 32 := by omega
      have i1 : (q1 : Int) < 32 := by omega
      have i2 : (q2 : Int) < 32 := by omega
      have i3 : (q3 : Int) < 32 := by omega
      have i4 : (q4 : Int) < 16 := by omega
      have hlen := pre_length hF (i := q4) (by omega)
      rw [← hq4] at oS
      have c0 := oK.drew.cell (i := q0) (by omega)
      have c1 := oK.drew.cell (i := q1) (by omega)
      have c2 := oK.drew.cell (i := q2) (by omega)
      have c3 := oK.drew.cell (i := q3) (by omega)
      have b0 := hK.nth q0
      have b1 := hK.nth q1
      have b2 := hK.nth q2
      have b3 := hK.nth q3
      have cs := oS.drew.cell (i := q4) (by omega)
      have z1 := oS.drew.frozen q4
      have hcall := fun w => cword_any _ _ _ _ w b0 b1 b2 b3
      have st := oS.drew.set q4 (Ch.nth (Ch.first K N n) q4)
      rw [pre_next hF (by omega)] at st
      have nk := first_key K N n k hlt
      have nw : Ch.word K (4 * k) = Ch.nth K q0 + 256 * Ch.nth K q1 + 65536 * Ch.nth K q2 + 16777216 * Ch.nth K q3 := by rw [hq0, hq1, hq2, hq3]; rfl
      rw [← hq4, nw] at nk
      rw [nk] at st
      clear nk nw
      generalize hX : Ch.nth K q0 + 256 * Ch.nth K q1 + 65536 * Ch.nth K q2 + 16777216 * Ch.nth K q3 = X at *
      have sb := hb.drew.setCell (p := ⟨w.heap.size + 1 + 1 + 1, q4, none⟩) (by show w.heap.size ≤ w.heap.size + 1 + 1 + 1; omega) (.int .u32 (X : Nat))
      have sK := oK.drew.other ⟨w.heap.size + 1 + 1 + 1, q4, none⟩ (.int .u32 (X : Nat)) (by show w.heap.size ≠ w.heap.size + 1 + 1 + 1; omega)
      have sN := oN.drew.other ⟨w.heap.size + 1 + 1 + 1, q4, none⟩ (.int .u32 (X : Nat)) (by show w.heap.size + 1 ≠ w.heap.size + 1 + 1 + 1; omega)
      have sZ := oZ.drew.other ⟨w.heap.size + 1 + 1 + 1, q4, none⟩ (.int .u32 (X : Nat)) (by show w.heap.size + 1 + 1 ≠ w.heap.size + 1 + 1 + 1; omega)
      have HQ := Lib.hid hq4
      clear hq0 hq1 hq2 hq3 hq4 hX b0 b1 b2 b3 hb oK oN oZ oS
      generalize wr = wo at *
      go_wp2
      refine wp_region_still_tail 23 (by kernel_rfl) (by kernel_rfl) ?_
      simp only [List.take_succ_cons, List.take_zero, List.drop_succ_cons, List.drop_zero]
      change wpStill _ _ wo.drew (fun a' => wpList _ _ _ _ a' wo.drew) _ _
      generalize wo.drew = w2 at *
      repeat still_step
      still_call ((hcall _).mono fun e w'' h => ⟨h.1, h.2.symm⟩)
      repeat still_step
      refine wpStill_nil ?_
      change wpList _ _ _ _ _ w2
      go_wp2
      go_roundw
      case rel => refine ⟨k + 1, by omega, by go_num, sK, sN, ⟨Z, lZ, sZ⟩, ?_, sb⟩; rw [show 4 + (k + 1) = q4 + 1 from by rw [HQ.out]; omega]; exact st
      case measure => simp [intOf]; omega
    · obtain rfl : k = 8 := by omega
      have z1 := oS.frozen 12
      have st := oS.set 12 (Ch.nth (Ch.first K N n) 12)
      rw [show (4 + 8 : Nat) = 12 from rfl, pre_next hF (by omega), first_n] at st
      have cs := oS.cell (i := 12) (by rw [pre_length hF (by omega)]; decide)
      have sb := hb.setCell (p := ⟨w.heap.size + 1 + 1 + 1, 12, none⟩) (by show w.heap.size ≤ w.heap.size + 1 + 1 + 1; omega) (.int .u32 (n : Nat))
      have sK := oK.other ⟨w.heap.size + 1 + 1 + 1, 12, none⟩ (.int .u32 (n : Nat)) (by show w.heap.size ≠ w.heap.size + 1 + 1 + 1; omega)
      have sN := oN.other ⟨w.heap.size + 1 + 1 + 1, 12, none⟩ (.int .u32 (n : Nat)) (by show w.heap.size + 1 ≠ w.heap.size + 1 + 1 + 1; omega)
      have sZ := oZ.other ⟨w.heap.size + 1 + 1 + 1, 12, none⟩ (.int .u32 (n : Nat)) (by show w.heap.size + 1 + 1 ≠ w.heap.size + 1 + 1 + 1; omega)
      clear hb oK oN oZ oS
      generalize wr = wo at *
      simp only [show ((8 : Nat) : Int) = 8 from rfl]
      go_wp2
      generalize wo.setCell ⟨w.heap.size + 1 + 1 + 1, 12, none⟩ (.int .u32 (n : Nat)) = w3 at *
      clear z1 cs
      go_loopw [40] (fun i wr => ∃ k : Nat, k ≤ 3 ∧ i = .int .i64 k ∧ Own wr w.heap.size 24 (vs .u8 K) ∧ Own wr (w.heap.size + 1) 54 (vs .u8 N) ∧ (∃ Z : List Nat, Z.length = 16 ∧ Own wr (w.heap.size + 1 + 1) 110 (vs .u32 Z)) ∧ Own wr (w.heap.size + 1 + 1 + 1) 110 (vs .u32 (pre (Ch.first K N n) (13 + k))) ∧ Below w.heap.size w wr) (fun i _ => 3 - (intOf i).toNat)
      case atStart => exact ⟨0, by omega, rfl, sK, sN, ⟨_, lZ, sZ⟩, st, sb⟩
      case round =>
        clear sK sN sZ st sb lZ
        obtain ⟨k, hk, rfl, oK, oN, ⟨Z, lZ, oZ⟩, oS, hb⟩ := hrel
        by_cases hlt : k < 3
        · obtain ⟨q0, hq0⟩ : ∃ q, q = 4 * k := ⟨_, rfl⟩
          obtain ⟨q1, hq1⟩ : ∃ q, q = 4 * k + 1 := ⟨_, rfl⟩
          obtain ⟨q2, hq2⟩ : ∃ q, q = 4 * k + 2 := ⟨_, rfl⟩
          obtain ⟨q3, hq3⟩ : ∃ q, q = 4 * k + 3 := ⟨_, rfl⟩
          obtain ⟨q4, hq4⟩ : ∃ q, q = 13 + k := ⟨_, rfl⟩
          have e0 : IntKind.i64.wrap (4 * (k : Int)) = (q0 : Int) := by rw [IntWalk.i64_in _ (by omega)]; omega
          have e1 : IntKind.i64.wrap ((q0 : Int) + 1) = (q1 : Int) := by rw [IntWalk.i64_in _ (by omega)]; omega
          have e2 : IntKind.i64.wrap ((q0 : Int) + 2) = (q2 : Int) := by rw [IntWalk.i64_in _ (by omega)]; omega
          have e3 : IntKind.i64.wrap ((q0 : Int) + 3) = (q3 : Int) := by rw [IntWalk.i64_in _ (by omega)]; omega
          have e4 : IntKind.i64.wrap (13 + (k : Int)) = (q4 : Int) := by rw [IntWalk.i64_in _ (by omega)]; omega
          have i0 : (q0 : Int) < 12 := by omega
          have i1 : (q1 : Int) < 12 := by omega
          have i2 : (q2 : Int) < 12 := by omega
          have i3 : (q3 : Int) < 12 := by omega
          have i4 : (q4 : Int) < 16 := by omega
          have hlen := pre_length hF (i := q4) (by omega)
          rw [← hq4] at oS
          have c0 := oN.drew.cell (i := q0) (by omega)
          have c1 := oN.drew.cell (i := q1) (by omega)
          have c2 := oN.drew.cell (i := q2) (by omega)
          have c3 := oN.drew.cell (i := q3) (by omega)
          have b0 := hN.nth q0
          have b1 := hN.nth q1
          have b2 := hN.nth q2
          have b3 := hN.nth q3
          have cs := oS.drew.cell (i := q4) (by omega)
          have z1 := oS.drew.frozen q4
          have hcall := fun w => cword_any _ _ _ _ w b0 b1 b2 b3
          have st := oS.drew.set q4 (Ch.nth (Ch.first K N n) q4)
          rw [pre_next hF (by omega)] at st
          have nk := first_nonce K N n k hlt
          have nw : Ch.word N (4 * k) = Ch.nth N q0 + 256 * Ch.nth N q1 + 65536 * Ch.nth N q2 + 16777216 * Ch.nth N q3 := by rw [hq0, hq1, hq2, hq3]; rfl
          rw [← hq4, nw] at nk
          rw [nk] at st
          clear nk nw
          generalize hX : Ch.nth N q0 + 256 * Ch.nth N q1 + 65536 * Ch.nth N q2 + 16777216 * Ch.nth N q3 = X at *
          have sb := hb.drew.setCell (p := ⟨w.heap.size + 1 + 1 + 1, q4, none⟩) (by show w.heap.size ≤ w.heap.size + 1 + 1 + 1; omega) (.int .u32 (X : Nat))
          have sK := oK.drew.other ⟨w.heap.size + 1 + 1 + 1, q4, none⟩ (.int .u32 (X : Nat)) (by show w.heap.size ≠ w.heap.size + 1 + 1 + 1; omega)
          have sN := oN.drew.other ⟨w.heap.size + 1 + 1 + 1, q4, none⟩ (.int .u32 (X : Nat)) (by show w.heap.size + 1 ≠ w.heap.size + 1 + 1 + 1; omega)
          have sZ := oZ.drew.other ⟨w.heap.size + 1 + 1 + 1, q4, none⟩ (.int .u32 (X : Nat)) (by show w.heap.size + 1 + 1 ≠ w.heap.size + 1 + 1 + 1; omega)
          have HQ := Lib.hid hq4
          clear hq0 hq1 hq2 hq3 hq4 hX b0 b1 b2 b3 hb oK oN oZ oS
          generalize wr = wo at *
          go_wp2
          refine wp_region_still_tail 23 (by kernel_rfl) (by kernel_rfl) ?_
          simp only [List.take_succ_cons, List.take_zero, List.drop_succ_cons, List.drop_zero]
          change wpStill _ _ wo.drew (fun a' => wpList _ _ _ _ a' wo.drew) _ _
          generalize wo.drew = w2 at *
          repeat still_step
          still_call ((hcall _).mono fun e w'' h => ⟨h.1, h.2.symm⟩)
          repeat still_step
          refine wpStill_nil ?_
          change wpList _ _ _ _ _ w2
          go_wp2
          go_roundw
          case rel => refine ⟨k + 1, by omega, by go_num, sK, sN, ⟨Z, lZ, sZ⟩, ?_, sb⟩; rw [show 13 + (k + 1) = q4 + 1 from by rw [HQ.out]; omega]; exact st
          case measure => simp [intOf]; omega

        · obtain rfl : k = 3 := by omega
          rw [show (13 + 3 : Nat) = 16 from rfl, pre_all hF] at oS
          generalize wr = wo at *
          go_wp2_with (first | (refine ld t38 rfl rfl rfl (by assumption) (by first | assumption | exact hF) ?_) | (refine sto t38 rfl rfl rfl rfl oZ lZ hF ?_))
          refine ret_arr t38 rfl rfl (oZ.row _) hF rfl ⟨rfl, below_row hb (by omega) _⟩
end Go.Proofs.YtaoaebdjinlcnaaDoor.Ci
