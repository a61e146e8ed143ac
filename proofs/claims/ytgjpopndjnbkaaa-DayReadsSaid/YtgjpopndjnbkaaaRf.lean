/-
  THE WALK of the reading of a text, of the document's answer.
-/
import Derived.Test.YtgjpopndjnbkaaaRm
namespace Go.Proofs.Ytgjpopndjnbkaaa
open Go.RowKit Go.Shelf
/-- a piece of a text as a number of digits alone, and how great it may be -/
def rp (s : ByteArray) (a b : Nat) : Int := rn (toL (s.extract a b)) 0
theorem rn_bd (l : List UInt8) : -1 ≤ rn l 0 ∧ rn l 0 < 10 ^ l.length := by
  have p : (0 : Int) < 10 ^ l.length := Int.pow_pos (by omega)
  by_cases h : 0 ≤ rn l 0
  · obtain ⟨h1, h2⟩ := rn_spec l 0 (by omega) h
    have h3 := vl_digs (rn l 0).toNat l.length 0
    rw [← h2, h1] at h3
    have h4 := Nat.mod_lt (rn l 0).toNat (Nat.pow_pos (n := l.length) (by omega : 0 < 10))
    have h5 : (((rn l 0).toNat % 10 ^ l.length : Nat) : Int) < 10 ^ l.length := by
      rw [← Int.ofNat_lt, Int.natCast_pow] at h4; exact h4
    omega
  · have : ∀ (l : List UInt8) (a : Int), 0 ≤ a → -1 ≤ rn l a := by
      intro l
      induction l with
      | nil => intro a ha; show -1 ≤ a; omega
      | cons c t ih =>
        intro a ha
        simp only [rn]
        split
        · omega
        · exact ih _ (by omega)
    exact ⟨this l 0 (by omega), by omega⟩
theorem rp_bd (s : ByteArray) (a b : Nat) : (b ≤ a + 4 → -1 ≤ rp s a b ∧ rp s a b ≤ 9999) ∧ (b ≤ a + 2 → rp s a b ≤ 99) := by
  have hl : (toL (s.extract a b)).length ≤ b - a := by rw [toL_length, ByteArray.size_extract]; omega
  have hv := rn_bd (toL (s.extract a b))
  unfold rp
  generalize (toL (s.extract a b)).length = L at *
  refine ⟨fun h => ?_, fun h => ?_⟩
  · have : L = 0 ∨ L = 1 ∨ L = 2 ∨ L = 3 ∨ L = 4 := by omega
    rcases this with e | e | e | e | e <;> rw [e] at hv <;> omega
  · have : L = 0 ∨ L = 1 ∨ L = 2 := by omega
    rcases this with e | e | e <;> rw [e] at hv <;> omega
theorem rp_any (s : ByteArray) (a b : Nat) (w : World) (h4 : b ≤ a + 4) : Calls Try.prog 33 #[.string (s.extract a b)] w fun e w' => e = .returned (.int .i64 (rp s a b)) ∧ w = w' :=
  rnumber_any (s.extract a b) w (by rw [ByteArray.size_extract]; omega)
/-- the signs between the digits -/
def sp (s : ByteArray) : ByteArray := s.extract 4 5 ++ s.extract 7 8 ++ s.extract 10 11 ++ s.extract 13 14
def RIs (s : ByteArray) : Prop := s.size = 16 ∧ sp s = ⟨#[45, 45, 32, 58]⟩ ∧ 0 ≤ rp s 0 4 ∧ (1 ≤ rp s 5 7 ∧ rp s 5 7 ≤ 12) ∧
  (1 ≤ rp s 8 10 ∧ rp s 8 10 ≤ Cal.dm (rp s 0 4) (rp s 5 7 - 1)) ∧ (0 ≤ rp s 11 13 ∧ rp s 11 13 ≤ 23) ∧ 0 ≤ rp s 14 16 ∧ rp s 14 16 ≤ 59
def rmin (s : ByteArray) : Int := 1440 * nb (rp s 0 4) (rp s 5 7 - 1) (rp s 8 10 - 1) + 60 * rp s 11 13 + rp s 14 16
def ROf (s : ByteArray) (e : Ending) : Prop :=
  (e = .returned (.tuple #[.int .i64 (rmin s), .bool true]) ∧ RIs s) ∨ (e = .returned (.tuple #[.int .i64 0, .bool false]) ∧ ¬ RIs s)
theorem nb_bd {y m d : Int} (hy : -1 ≤ y ∧ y ≤ 10000) (hm : 0 ≤ m ∧ m < 12) (hd : -1 ≤ d ∧ d ≤ 100) : -1000000 ≤ nb y m d ∧ nb y m d ≤ 4000000 := by
  have k0 := Cal.sm_nonneg (12 * ((y - 2000) % 400).toNat + m.toNat)
  have k1 := Cal.sm_le (12 * ((y - 2000) % 400).toNat + m.toNat) 4800 (by omega)
  rw [Cal.sm_cycle] at k1
  unfold nb
  omega
theorem nb_2000 : nb 2000 0 0 = 0 := rfl
theorem nb_day (y m d : Int) : nb y m d = nb y m 0 + d := by unfold nb; omega
/-- the days taken off for a year ahead of 2000 -/
def gy (y : Int) : Int := if y < 2000 then nb y 0 0 else 0
theorem gy_step {y : Int} (h : y < 2000) : gy (y + 1) = gy y + 365 + if Cal.leap y = true then 1 else 0 := by
  have := nb_year y
  unfold gy
  rw [if_pos h]
  by_cases h2 : y + 1 < 2000
  · rw [if_pos h2]; exact this
  · rw [if_neg h2, ← this]
    have : y + 1 = 2000 := by omega
    rw [this]; rfl
set_option maxRecDepth 100000 in
set_option maxHeartbeats 2000000 in
theorem rof_any (s : ByteArray) (W : World) (hs : s.size ≤ 9223372036854775807) : Calls Try.prog 22 #[.string s] W fun e w' => ROf s e ∧ Dr W w' := by
  by_cases h16 : s.size = 16
  · by_cases hsp : sp s = ⟨#[45, 45, 32, 58]⟩
    · have hsq : (sp s).toList = [45, 45, 32, 58] := by rw [hsp, ByteArray.toList_eq]
      unfold sp at hsq
      go_enter Try.func22, Try.ntmps22
      go_wp2_with fail
      go_quiet (fail)
      have hd1 : Dr W (W.drewN nq) := ⟨_, rfl⟩
      generalize W.drewN nq = W1 at *
      go_wp2_with fail
      have bY := (rp_bd s 0 4).1 (by omega)
      have bM := (rp_bd s 5 7).2 (by omega)
      have bM' := (rp_bd s 5 7).1 (by omega)
      have bD := (rp_bd s 8 10).2 (by omega)
      have bD' := (rp_bd s 8 10).1 (by omega)
      have bH := (rp_bd s 11 13).1 (by omega)
      have bN := (rp_bd s 14 16).1 (by omega)
      have HR := Lib.hid (show rmin s = 1440 * nb (rp s 0 4) (rp s 5 7 - 1) (rp s 8 10 - 1) + 60 * rp s 11 13 + rp s 14 16 from rfl)
      have HI := Lib.hid (show RIs s ↔ (0 ≤ rp s 0 4 ∧ (1 ≤ rp s 5 7 ∧ rp s 5 7 ≤ 12) ∧
        (1 ≤ rp s 8 10 ∧ rp s 8 10 ≤ Cal.dm (rp s 0 4) (rp s 5 7 - 1)) ∧ (0 ≤ rp s 11 13 ∧ rp s 11 13 ≤ 23) ∧ 0 ≤ rp s 14 16 ∧ rp s 14 16 ≤ 59) from ⟨fun h => h.2.2, fun h => ⟨h16, hsp, h⟩⟩)
      clear hsq
      go_quiet ((go_at_call 33; exact quietS (rp_any s _ _ _ (by decide))))
      have hd2 := hd1.drewN nq
      generalize W1.drewN nq = W2 at *
      clear hd1
      generalize rp s 0 4 = Y at *
      generalize rp s 5 7 = M at *
      generalize rp s 8 10 = D at *
      generalize rp s 11 13 = H at *
      generalize rp s 14 16 = I at *
      by_cases HN0 : 0 ≤ Y ∧ (1 ≤ M ∧ M ≤ 12) ∧ (1 ≤ D ∧ D ≤ Cal.dm Y (M - 1)) ∧ (0 ≤ H ∧ H ≤ 23) ∧ 0 ≤ I ∧ I ≤ 59
      · have HOK := Lib.hid (HI.out.2 HN0)
        obtain ⟨g0, ⟨g1, g2⟩, ⟨g3, g4⟩, ⟨g5, g6⟩, g7, g8⟩ := HN0
        have NB := Lib.hid (fun m (hm : 0 ≤ m ∧ m < 12) => nb_bd (y := Y) (m := m) (d := D - 1) (by omega) hm (by omega))
        have NY := Lib.hid (fun y (hy : -1 ≤ y ∧ y ≤ 10000) => nb_bd (y := y) (m := 0) (d := 0) hy (by omega) (by omega))
        have GY := Lib.hid (fun y (hy : -1 ≤ y ∧ y ≤ 10000) => show -1000000 ≤ gy y ∧ gy y ≤ 4000000 from by
          unfold gy; split
          · exact NY.out y hy
          · omega)
        have H0 := Lib.hid (nb_day Y 0 (D - 1))
        clear HI
        have y0 := NY.out Y (by omega)
        have YE := Lib.hid (rfl : nb Y 0 0 = nb Y 0 0)
        go_wp2_with fail
        refine (rdays_any _ _ _ (by omega) (by omega)).mono ?_
        rintro e w3 ⟨rfl, rfl⟩
        go_wp2_with fail
        go_loop [9, 10] (fun n m => ∃ k : Nat, m = .int .i64 ((k : Int) + 1) ∧ (k : Int) + 1 ≤ M ∧ n = .int .i64 (nb Y k (D - 1) - nb Y 0 0)) (fun _ m => 12 - (intOf m).toNat)
        case atStart => exact ⟨0, rfl, by omega, by rw [show ((0 : Nat) : Int) = 0 from rfl, H0.out]; congr 1; omega⟩
        case round =>
          obtain ⟨k, rfl, hk, rfl⟩ := hrel
          have b0 := NB.out k (by omega)
          by_cases hlt : (k : Int) + 1 < M
          · have st := nb_month (y := Y) (m := k) (d := D - 1) (by omega)
            have b1 := NB.out (k + 1) (by omega)
            rw [st] at b1
            have ST := Lib.hid st
            clear st
            go_wp2_with fail
            refine (rdays_any _ _ _ (by omega) (by omega)).mono ?_
            rintro e w3 ⟨rfl, rfl⟩
            rw [show (k : Int) + 1 - 1 = k from by omega]
            go_wp2_with fail
            go_round
            case rel => exact ⟨k + 1, by go_num, by omega, by rw [show ((k + 1 : Nat) : Int) = (k : Int) + 1 from rfl, ST.out]; congr 1; omega⟩
            case measure => simp [intOf]; omega
          · have hkM : (k : Int) = M - 1 := by omega
            rw [hkM] at b0 ⊢
            clear NB hlt hk
            have gE : gy Y = if Y < 2000 then nb Y 0 0 else 0 := rfl
            have GE := Lib.hid gE
            clear gE H0 YE
            generalize nb Y (M - 1) (D - 1) = E at *
            go_wp2_with fail
            go_loop [9, 11] (fun n y' => ∃ y : Int, y' = .int .i64 y ∧ 2000 ≤ y ∧ (y ≤ Y ∨ y = 2000) ∧ n = .int .i64 (E - nb Y 0 0 + nb y 0 0)) (fun _ y' => (10001 - intOf y').toNat)
            case atStart => exact ⟨2000, rfl, by omega, .inr rfl, by rw [nb_2000]; congr 1; omega⟩
            case round =>
              obtain ⟨y, rfl, hy, hyY, rfl⟩ := hrel
              have b1 := NY.out y (by omega)
              by_cases hlt : y < Y
              · have b2 := NY.out (y + 1) (by omega)
                have st := nb_year y
                have ST := Lib.hid st
                clear hyY
                cases hl : Cal.leap y
                · rw [hl] at st
                  simp only [Bool.false_eq_true, if_false] at st
                  rw [st] at b2
                  have ST := Lib.hid st
                  clear st
                  go_wp2_with fail
                  refine (rleap_any _ _).mono ?_
                  rintro e w3 ⟨rfl, rfl⟩
                  rw [hl]
                  go_wp2_with fail
                  go_round
                  case rel => exact ⟨y + 1, by go_num, by omega, by omega, by rw [ST.out]; congr 1; omega⟩
                  case measure => simp [intOf]; omega
                · rw [hl] at st
                  simp only [if_true] at st
                  rw [st] at b2
                  have ST := Lib.hid st
                  clear st
                  go_wp2_with fail
                  refine (rleap_any _ _).mono ?_
                  rintro e w3 ⟨rfl, rfl⟩
                  rw [hl]
                  go_wp2_with fail
                  go_round
                  case rel => exact ⟨y + 1, by go_num, by omega, by omega, by rw [ST.out]; congr 1; omega⟩
                  case measure => simp [intOf]; omega
              · have hn : E - nb Y 0 0 + nb y 0 0 = E - gy Y := by
                  rw [GE.out]
                  by_cases h2 : Y < 2000
                  · have e1 : y = 2000 := by omega
                    rw [if_pos h2, e1, nb_2000]; omega
                  · have e1 : y = Y := by omega
                    rw [if_neg h2, e1]; omega
                rw [hn]
                have b3 := GY.out Y (by omega)
                clear hn hyY b1 GE
                go_wp2_with fail
                go_loop [9, 12] (fun n y' => ∃ y : Int, y' = .int .i64 y ∧ Y ≤ y ∧ (y ≤ 2000 ∨ y = Y) ∧ n = .int .i64 (E - gy y)) (fun _ y' => (10001 - intOf y').toNat)
                case atStart => exact ⟨Y, rfl, by omega, .inr rfl, rfl⟩
                case round =>
                  obtain ⟨y, rfl, hy, hyY, rfl⟩ := hrel
                  have b1 := GY.out y (by omega)
                  by_cases hlt : y < 2000
                  · have b2 := GY.out (y + 1) (by omega)
                    have st := gy_step hlt
                    clear hyY
                    cases hl : Cal.leap y
                    · rw [hl] at st
                      simp only [Bool.false_eq_true, if_false] at st
                      rw [st] at b2
                      have ST := Lib.hid st
                      clear st
                      go_wp2_with fail
                      refine (rleap_any _ _).mono ?_
                      rintro e w3 ⟨rfl, rfl⟩
                      rw [hl]
                      go_wp2_with fail
                      go_round
                      case rel => exact ⟨y + 1, by go_num, by omega, by omega, by rw [ST.out]; congr 1; omega⟩
                      case measure => simp [intOf]; omega
                    · rw [hl] at st
                      simp only [if_true] at st
                      rw [st] at b2
                      have ST := Lib.hid st
                      clear st
                      go_wp2_with fail
                      refine (rleap_any _ _).mono ?_
                      rintro e w3 ⟨rfl, rfl⟩
                      rw [hl]
                      go_wp2_with fail
                      go_round
                      case rel => exact ⟨y + 1, by go_num, by omega, by omega, by rw [ST.out]; congr 1; omega⟩
                      case measure => simp [intOf]; omega
                  · have hn : gy y = 0 := if_neg hlt
                    rw [hn, show E - 0 = E from by omega]
                    clear hn hyY b1
                    go_wp2_with fail
                    go_ret2
                    refine ⟨.inl ⟨?_, HOK.out⟩, hd2⟩
                    rw [HR.out]
                    rfl
      · have HN := Lib.hid HN0
        clear HR
        by_cases c0 : Y < 0
        · clear HN0
          go_wp2_with fail
          go_ret2
          exact ⟨.inr ⟨rfl, fun h => HN.out (HI.out.1 h)⟩, hd2⟩
        by_cases c1 : M < 1
        · clear HN0
          go_wp2_with fail
          go_ret2
          exact ⟨.inr ⟨rfl, fun h => HN.out (HI.out.1 h)⟩, hd2⟩
        by_cases c2 : 12 < M
        · clear HN0
          go_wp2_with fail
          go_ret2
          exact ⟨.inr ⟨rfl, fun h => HN.out (HI.out.1 h)⟩, hd2⟩
        by_cases c3 : D < 1
        · clear HN0
          go_wp2_with fail
          go_ret2
          exact ⟨.inr ⟨rfl, fun h => HN.out (HI.out.1 h)⟩, hd2⟩
        by_cases c4 : Cal.dm Y (M - 1) < D
        · clear HN0
          go_wp2_with fail
          refine (rdays_any _ _ _ (by omega) (by omega)).mono ?_
          rintro e w3 ⟨rfl, rfl⟩
          go_wp2_with fail
          go_ret2
          exact ⟨.inr ⟨rfl, fun h => HN.out (HI.out.1 h)⟩, hd2⟩
        by_cases c5 : H < 0
        · clear HN0
          go_wp2_with fail
          refine (rdays_any _ _ _ (by omega) (by omega)).mono ?_
          rintro e w3 ⟨rfl, rfl⟩
          go_wp2_with fail
          go_ret2
          exact ⟨.inr ⟨rfl, fun h => HN.out (HI.out.1 h)⟩, hd2⟩
        by_cases c6 : 23 < H
        · clear HN0
          go_wp2_with fail
          refine (rdays_any _ _ _ (by omega) (by omega)).mono ?_
          rintro e w3 ⟨rfl, rfl⟩
          go_wp2_with fail
          go_ret2
          exact ⟨.inr ⟨rfl, fun h => HN.out (HI.out.1 h)⟩, hd2⟩
        by_cases c7 : I < 0
        · clear HN0
          go_wp2_with fail
          refine (rdays_any _ _ _ (by omega) (by omega)).mono ?_
          rintro e w3 ⟨rfl, rfl⟩
          go_wp2_with fail
          go_ret2
          exact ⟨.inr ⟨rfl, fun h => HN.out (HI.out.1 h)⟩, hd2⟩
        by_cases c8 : 59 < I
        · clear HN0
          go_wp2_with fail
          refine (rdays_any _ _ _ (by omega) (by omega)).mono ?_
          rintro e w3 ⟨rfl, rfl⟩
          go_wp2_with fail
          go_ret2
          exact ⟨.inr ⟨rfl, fun h => HN.out (HI.out.1 h)⟩, hd2⟩
        exact absurd (by omega) HN0
    · have hsq : ((sp s).toList == [45, 45, 32, 58]) = false := by
        rw [beq_eq_false_iff_ne, ByteArray.toList_eq]
        exact fun h => hsp (toL_inj h)
      unfold sp at hsq
      go_enter Try.func22, Try.ntmps22
      go_wp2_with fail
      go_quiet (fail)
      go_wp2_with fail
      go_ret2
      exact ⟨.inr ⟨rfl, fun h => hsp h.2.1⟩, Dr.drewN (Dr.refl _) _⟩
  · have hne : ((s.size : Int) != 16) = true := by rw [bne_iff_ne]; omega
    go_enter Try.func22, Try.ntmps22
    go_wp2_with fail
    go_quiet (fail)
    go_wp2_with fail
    go_ret2
    exact ⟨.inr ⟨rfl, fun h => h16 h.1⟩, Dr.drewN (Dr.refl _) _⟩
end Go.Proofs.Ytgjpopndjnbkaaa
