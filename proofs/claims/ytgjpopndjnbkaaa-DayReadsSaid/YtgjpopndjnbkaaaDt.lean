/-
  THE WALKS of a day's year, month and day, of the code and of the document's answer.
-/
import Derived.Test.YtgjpopndjnbkaaaDw
namespace Go.Proofs.Ytgjpopndjnbkaaa
open Go.RowKit
/-- the months from 2000 on and the days of the month -/
def yr (k : Nat) : Int := 2000 + ((k / 12 : Nat) : Int)
def mn (k : Nat) : Int := ((k % 12 : Nat) : Int)
theorem md_eq (k : Nat) : Cal.dm (yr k) (mn k) = Cal.sm (k + 1) - Cal.sm k := by
  show Cal.md k = _
  simp only [Cal.sm]; omega
set_option maxHeartbeats 1000000 in
theorem date_any (d : Int) (W : World) (h0 : -6500000000000000 ≤ d) (h1 : d ≤ 6500000000000000) :
    Calls Try.prog 25 #[.int .i64 d] W fun e w' => e = .returned (.tuple #[.int .i64 (2000 + 400 * (d / 146097) + ((Cal.mo (d % 146097) / 12 : Nat) : Int)), .int .i64 ((Cal.mo (d % 146097) % 12 : Nat) : Int), .int .i64 (d % 146097 - Cal.sm (Cal.mo (d % 146097)))]) ∧ Below W.heap.size W w' := by
  have r0 := Int.emod_nonneg d (b := 146097) (by omega)
  have r1 := Int.emod_lt_of_pos d (b := 146097) (by omega)
  have q0 : -50000000000 ≤ d / 146097 := by omega
  have q1 : d / 146097 ≤ 50000000000 := by omega
  have S := Cal.mo_spec r0 r1
  have MU := Lib.hid (fun k => Cal.mo_unique (r := d % 146097) (k := k) r0 r1)
  generalize hR : d % 146097 = R at *
  generalize hC : d / 146097 = C at *
  have HS := Lib.hid S
  clear S
  go_enter Try.func25, Try.ntmps25
  go_wp2_with fail
  refine (parted_any _ _ _ (by omega) (by omega) (by omega) (by omega)).mono ?_
  rintro e w1 ⟨rfl, hd1⟩
  rw [hR, hC]
  go_wp2_with fail
  go_loopw [6, 7, 8] (fun l y m wr => ∃ k : Nat, k ≤ Cal.mo R ∧ l = .int .i64 (R - Cal.sm k) ∧ y = .int .i64 (yr k) ∧ m = .int .i64 (mn k) ∧ Below W.heap.size W wr) (fun _ y m _ => (28800 - (12 * intOf y + intOf m)).toNat)
  case atStart => exact ⟨0, Nat.zero_le _, by simp [Cal.sm], rfl, rfl, hd1.below⟩
  case round =>
    obtain ⟨k, hk, rfl, rfl, rfl, hb⟩ := hrel
    have hm : 0 ≤ mn k ∧ mn k < 12 := by unfold mn; omega
    have hk' : k < 4800 := by have := HS.out; omega
    have hy : 2000 ≤ yr k ∧ yr k < 2400 := by unfold yr; omega
    have hmd := md_eq k
    have bmd := Cal.dm_bd (yr k) (mn k)
    have hsm := Cal.sm_nonneg k
    have hle := Cal.sm_le k (Cal.mo R) hk
    have hs := HS.out
    have e1 : (mn k = 11 → yr (k + 1) = yr k + 1 ∧ mn (k + 1) = 0) ∧ (mn k ≠ 11 → yr (k + 1) = yr k ∧ mn (k + 1) = mn k + 1) := by unfold yr mn; omega
    generalize hmn : mn k = mm at *
    generalize hyn : yr k = yy at *
    have HE := Lib.hid e1
    clear e1
    have hmd2 : Cal.dm yy mm = Cal.sm (k + 1) - Cal.sm k := by rw [← hyn, ← hmn]; exact md_eq k
    clear hmd
    have hmd := hmd2
    clear hmd2
    go_wp2_with fail
    refine (mdays_any _ _ _ hm.1 hm.2).mono ?_
    rintro e w3 ⟨rfl, hb3⟩
    have hb4 := hb.trans (hb3.mono hb.size)
    by_cases hlt : k < Cal.mo R
    · have hle2 := Cal.sm_le (k + 1) (Cal.mo R) hlt
      have hge : Cal.dm yy mm ≤ R - Cal.sm k := by omega
      go_wp2_with fail
      refine (mdays_any _ _ _ hm.1 hm.2).mono ?_
      rintro e w5 ⟨rfl, hb5⟩
      have hb6 := hb4.trans (hb5.mono hb4.size)
      by_cases h12 : mm = 11
      · subst h12
        have e1 := HE.out.1 rfl
        go_wp2
        go_roundw
        case rel => exact ⟨k + 1, hlt, by congr 1; omega, by rw [e1.1], by rw [e1.2], hb6⟩
        case measure => simp [intOf]; omega
      · have e1 := HE.out.2 h12
        have hd : decide (mm + 1 = 12) = false := by simp; omega
        have hbq : (mm + 1 == 12) = false := by rw [beq_eq_false_iff_ne]; omega
        go_wp2
        go_roundw
        case rel => exact ⟨k + 1, hlt, by congr 1; omega, by rw [e1.1], by rw [e1.2], hb6⟩
        case measure => simp [intOf]; omega
    · have : k = Cal.mo R := by omega
      subst this
      have hge : ¬ Cal.dm yy mm ≤ R - Cal.sm (Cal.mo R) := by omega
      go_wp2
      go_ret3
      refine ⟨?_, hb4⟩
      unfold yr at hyn
      unfold mn at hmn
      rw [hmn, ← hyn]
      have : 2000 + ((Cal.mo R / 12 : Nat) : Int) + C * 400 = 2000 + 400 * C + ((Cal.mo R / 12 : Nat) : Int) := by omega
      rw [this]
      rfl

set_option maxHeartbeats 1000000 in
theorem rdate_any (d : Int) (W : World) (h0 : -6500000000000000 ≤ d) (h1 : d ≤ 6500000000000000) :
    Calls Try.prog 26 #[.int .i64 d] W fun e w' => e = .returned (.tuple #[.int .i64 (2000 + 400 * (d / 146097) + ((Cal.mo (d % 146097) / 12 : Nat) : Int)), .int .i64 (((Cal.mo (d % 146097) % 12 : Nat) : Int) + 1), .int .i64 (d % 146097 - Cal.sm (Cal.mo (d % 146097)) + 1)]) ∧ W = w' := by
  have r0 := Int.emod_nonneg d (b := 146097) (by omega)
  have r1 := Int.emod_lt_of_pos d (b := 146097) (by omega)
  have q0 : -50000000000 ≤ d / 146097 := by omega
  have q1 : d / 146097 ≤ 50000000000 := by omega
  have S := Cal.mo_spec r0 r1
  have HM := Lib.hid (show d - 146097 * (d / 146097) = d % 146097 by omega)
  have hv : ∀ w, Calls Try.prog 24 #[.int .i64 d, .int .i64 146097] w fun e w' => e = .returned (.int .i64 (d / 146097)) ∧ w = w' := fun w => floor_any _ _ w (by omega) (by omega) (by omega) (by omega)
  generalize hR : d % 146097 = R at *
  generalize hC : d / 146097 = C at *
  have eR : d - 146097 * C = R := HM.out
  have er2 : wrap64 (146097 * C) = 146097 * C := IntWalk.wrap64_in _ (by omega)
  have er3 : wrap64 (d - 146097 * C) = R := by rw [IntWalk.wrap64_in _ (by omega)]; exact eR
  have HS := Lib.hid S
  clear S hR hC
  go_enter Try.func26, Try.ntmps26
  go_wp2_with fail
  refine (hv _).mono ?_
  rintro e w1 ⟨rfl, rfl⟩
  go_wp2_with fail
  refine (hv _).mono ?_
  rintro e w1 ⟨rfl, rfl⟩
  go_wp2_with fail
  go_loopw [6, 5, 7] (fun l y m wr => ∃ k : Nat, k ≤ Cal.mo R ∧ l = .int .i64 (R - Cal.sm k) ∧ y = .int .i64 (400 * C + yr k) ∧ m = .int .i64 (mn k + 1) ∧ W = wr) (fun _ y m _ => (28801 + 400 * C * 12 - (12 * intOf y + intOf m)).toNat)
  case atStart => exact ⟨0, Nat.zero_le _, by simp [Cal.sm], by congr 1; unfold yr; omega, rfl, rfl⟩
  case round =>
    obtain ⟨k, hk, rfl, rfl, rfl, rfl⟩ := hrel
    have hm : 0 ≤ mn k ∧ mn k < 12 := by unfold mn; omega
    have hk' : k < 4800 := by have := HS.out; omega
    have hy : 2000 ≤ yr k ∧ yr k < 2400 := by unfold yr; omega
    have hmd := md_eq k
    have bmd := Cal.dm_bd (yr k) (mn k)
    have hsm := Cal.sm_nonneg k
    have hle := Cal.sm_le k (Cal.mo R) hk
    have hs := HS.out
    have e1 : (mn k = 11 → yr (k + 1) = yr k + 1 ∧ mn (k + 1) = 0) ∧ (mn k ≠ 11 → yr (k + 1) = yr k ∧ mn (k + 1) = mn k + 1) := by unfold yr mn; omega
    generalize hmn : mn k = mm at *
    generalize hyn : yr k = yy at *
    have HE := Lib.hid e1
    clear e1
    have hmd2 : Cal.dm yy mm = Cal.sm (k + 1) - Cal.sm k := by rw [← hyn, ← hmn]; exact md_eq k
    clear hmd
    have hv2 : ∀ w, Calls Try.prog 34 #[.int .i64 (400 * C + yy), .int .i64 (mm + 1)] w fun e w' => e = .returned (.int .i64 (Cal.sm (k + 1) - Cal.sm k)) ∧ w = w' := fun w => (rdays_any _ _ w (by omega) (by omega)).mono fun e w' ⟨he, hw⟩ => ⟨by
      rw [he, show mm + 1 - 1 = mm from by omega, Int.add_comm, Cal.dm_cycle, hmd2], hw⟩
    rw [hmd2] at bmd
    clear hmd2
    go_wp2_with fail
    refine (hv2 _).mono ?_
    rintro e w3 ⟨rfl, rfl⟩
    by_cases hlt : k < Cal.mo R
    · have hle2 := Cal.sm_le (k + 1) (Cal.mo R) hlt
      have hge : Cal.sm (k + 1) - Cal.sm k ≤ R - Cal.sm k := by omega
      go_wp2_with fail
      refine (hv2 _).mono ?_
      rintro e w3 ⟨rfl, rfl⟩
      by_cases h12 : mm = 11
      · subst h12
        have e1 := HE.out.1 rfl
        go_wp2
        go_roundw
        case rel => exact ⟨k + 1, hlt, by congr 1; omega, by rw [e1.1]; congr 1; omega, by rw [e1.2]; rfl, trivial⟩
        case measure => simp [intOf]; omega
      · have e1 := HE.out.2 h12
        have hd : decide (mm + 1 + 1 = 13) = false := by simp; omega
        have hbq : (mm + 1 + 1 == 13) = false := by rw [beq_eq_false_iff_ne]; omega
        go_wp2
        go_roundw
        case rel => exact ⟨k + 1, hlt, by congr 1; omega, by rw [e1.1], by rw [e1.2], trivial⟩
        case measure => simp [intOf]; omega
    · have : k = Cal.mo R := by omega
      subst this
      have hge : ¬ Cal.sm (Cal.mo R + 1) - Cal.sm (Cal.mo R) ≤ R - Cal.sm (Cal.mo R) := by omega
      go_wp2
      go_ret3
      refine ⟨?_, rfl⟩
      unfold yr at hyn
      unfold mn at hmn
      rw [hmn]
      have : 400 * C + yy = 2000 + 400 * C + ((Cal.mo R / 12 : Nat) : Int) := by omega
      rw [this]
      rfl

def D0 (n : Int) : Prop := -9223372036854775808 ≤ n ∧ n ≤ 9223372036854775807
theorem D0.day {n : Int} (h : D0 n) : -6500000000000000 ≤ Cal.day n ∧ Cal.day n ≤ 6500000000000000 := by unfold D0 at h; unfold Cal.day; omega
theorem day_any (n : Int) (W : World) (h : D0 n) : Calls Try.prog 10 #[.int .i64 n] W fun e w' => e = .returned (.int .i64 (Cal.day n)) ∧ Dr W w' := by
  go_enter Try.func10, Try.ntmps10
  go_wp2_with fail
  refine (parted_any _ _ _ h.1 h.2 (by omega) (by omega)).mono ?_
  rintro e w1 ⟨rfl, hd⟩
  go_wp2
  go_ret
  exact ⟨rfl, hd⟩
theorem rday_any (n : Int) (W : World) (h : D0 n) : Calls Try.prog 11 #[.int .i64 n] W fun e w' => e = .returned (.int .i64 (Cal.day n)) ∧ W = w' := by
  go_enter Try.func11, Try.ntmps11
  go_wp2_with fail
  refine (floor_any _ _ _ h.1 h.2 (by omega) (by omega)).mono ?_
  rintro e w1 ⟨rfl, rfl⟩
  go_wp2
  go_ret
  exact ⟨rfl, rfl⟩
theorem week_any (n : Int) (W : World) (h : D0 n) : Calls Try.prog 12 #[.int .i64 n] W fun e w' => e = .returned (.int .i64 (Cal.week n)) ∧ Dr W w' := by
  have hd := h.day
  unfold Cal.week
  generalize hD : Cal.day n = D at *
  go_enter Try.func12, Try.ntmps12
  go_wp2_with fail
  refine (day_any _ _ h).mono ?_
  rintro e w1 ⟨rfl, hd1⟩
  rw [hD]
  go_wp2_with fail
  refine (parted_any _ _ _ (by omega) (by omega) (by omega) (by omega)).mono ?_
  rintro e w1 ⟨rfl, hd2⟩
  go_wp2
  go_ret
  exact ⟨rfl, hd1.trans hd2⟩
theorem rweek_any (n : Int) (W : World) (h : D0 n) : Calls Try.prog 13 #[.int .i64 n] W fun e w' => e = .returned (.int .i64 (Cal.week n)) ∧ W = w' := by
  have hd := h.day
  unfold Cal.week
  generalize hD : Cal.day n = D at *
  go_enter Try.func13, Try.ntmps13
  go_wp2_with fail
  refine (rday_any _ _ h).mono ?_
  rintro e w1 ⟨rfl, rfl⟩
  rw [hD]
  go_wp2_with fail
  refine (floor_any _ _ _ (by omega) (by omega) (by omega) (by omega)).mono ?_
  rintro e w1 ⟨rfl, rfl⟩
  go_wp2
  go_ret
  exact ⟨rfl, rfl⟩
/-- a date by day's number -/
def ye (d : Int) : Int := 2000 + 400 * (d / 146097) + ((Cal.mo (d % 146097) / 12 : Nat) : Int)
def mt (d : Int) : Int := ((Cal.mo (d % 146097) % 12 : Nat) : Int)
def dd (d : Int) : Int := d % 146097 - Cal.sm (Cal.mo (d % 146097))
theorem ye_eq (n : Int) : Cal.year n = ye (Cal.day n) := rfl
theorem mt_eq (n : Int) : Cal.month n = (ye (Cal.day n) - 2000) * 12 + mt (Cal.day n) := by unfold Cal.month ye mt; omega
theorem date_bd {d : Int} (h0 : -6500000000000000 ≤ d) (h1 : d ≤ 6500000000000000) : (-20000000000000 ≤ ye d ∧ ye d ≤ 20000000000000) ∧ (0 ≤ mt d ∧ mt d ≤ 11) ∧ (0 ≤ dd d ∧ dd d ≤ 30) := by
  have r0 := Int.emod_nonneg d (b := 146097) (by omega)
  have r1 := Int.emod_lt_of_pos d (b := 146097) (by omega)
  have S := Cal.mo_spec r0 r1
  have M := Cal.md_bd (Cal.mo (d % 146097))
  simp only [Cal.sm] at S
  unfold ye mt dd
  omega
theorem dat_any (d : Int) (W : World) (h0 : -6500000000000000 ≤ d) (h1 : d ≤ 6500000000000000) :
    Calls Try.prog 25 #[.int .i64 d] W fun e w' => e = .returned (.tuple #[.int .i64 (ye d), .int .i64 (mt d), .int .i64 (dd d)]) ∧ Below W.heap.size W w' := date_any d W h0 h1
theorem rdat_any (d : Int) (W : World) (h0 : -6500000000000000 ≤ d) (h1 : d ≤ 6500000000000000) :
    Calls Try.prog 26 #[.int .i64 d] W fun e w' => e = .returned (.tuple #[.int .i64 (ye d), .int .i64 (mt d + 1), .int .i64 (dd d + 1)]) ∧ W = w' := rdate_any d W h0 h1
theorem month_any (n : Int) (W : World) (h : D0 n) : Calls Try.prog 14 #[.int .i64 n] W fun e w' => e = .returned (.int .i64 (Cal.month n)) ∧ Below W.heap.size W w' := by
  have hd := h.day
  have hb := date_bd hd.1 hd.2
  rw [mt_eq]
  generalize hD : Cal.day n = D at *
  go_enter Try.func14, Try.ntmps14
  go_wp2_with fail
  refine (day_any _ _ h).mono ?_
  rintro e w1 ⟨rfl, hd1⟩
  rw [hD]
  go_wp2_with fail
  refine (dat_any _ _ hd.1 hd.2).mono ?_
  rintro e w1 ⟨rfl, hb2⟩
  go_wp2
  go_ret
  exact ⟨rfl, hd1.below.trans (hb2.mono (by rw [hd1.size]; exact Nat.le_refl _))⟩
theorem rmonth_any (n : Int) (W : World) (h : D0 n) : Calls Try.prog 15 #[.int .i64 n] W fun e w' => e = .returned (.int .i64 (Cal.month n)) ∧ W = w' := by
  have hd := h.day
  have hb := date_bd hd.1 hd.2
  have hq := mt_eq n
  generalize hD : Cal.day n = D at *
  have HQ := Lib.hid hq
  clear hq
  go_enter Try.func15, Try.ntmps15
  go_wp2_with fail
  refine (rday_any _ _ h).mono ?_
  rintro e w1 ⟨rfl, rfl⟩
  rw [hD]
  go_wp2_with fail
  refine (rdat_any _ _ hd.1 hd.2).mono ?_
  rintro e w1 ⟨rfl, rfl⟩
  go_wp2
  go_ret
  refine ⟨?_, rfl⟩
  rw [HQ.out]
  have : (ye D - 2000) * 12 + mt D = 12 * (ye D - 2000) + (mt D + 1) - 1 := by omega
  rw [this]
  rfl
theorem year_any (n : Int) (W : World) (h : D0 n) : Calls Try.prog 16 #[.int .i64 n] W fun e w' => e = .returned (.int .i64 (Cal.year n)) ∧ Below W.heap.size W w' := by
  have hd := h.day
  have hb := date_bd hd.1 hd.2
  rw [ye_eq]
  generalize hD : Cal.day n = D at *
  go_enter Try.func16, Try.ntmps16
  go_wp2_with fail
  refine (day_any _ _ h).mono ?_
  rintro e w1 ⟨rfl, hd1⟩
  rw [hD]
  go_wp2_with fail
  refine (dat_any _ _ hd.1 hd.2).mono ?_
  rintro e w1 ⟨rfl, hb2⟩
  go_wp2
  go_ret
  exact ⟨rfl, hd1.below.trans (hb2.mono (by rw [hd1.size]; exact Nat.le_refl _))⟩
theorem ryear_any (n : Int) (W : World) (h : D0 n) : Calls Try.prog 17 #[.int .i64 n] W fun e w' => e = .returned (.int .i64 (Cal.year n)) ∧ W = w' := by
  have hd := h.day
  have hb := date_bd hd.1 hd.2
  rw [ye_eq]
  generalize hD : Cal.day n = D at *
  go_enter Try.func17, Try.ntmps17
  go_wp2_with fail
  refine (rday_any _ _ h).mono ?_
  rintro e w1 ⟨rfl, rfl⟩
  rw [hD]
  go_wp2_with fail
  refine (rdat_any _ _ hd.1 hd.2).mono ?_
  rintro e w1 ⟨rfl, rfl⟩
  go_wp2
  go_ret
  exact ⟨rfl, rfl⟩
end Go.Proofs.Ytgjpopndjnbkaaa
