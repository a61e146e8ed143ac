/-
  THE WALKS of a text's digits as a number, and of a day's number of a date, of the code.
-/
import Derived.Test.YtgjpopndjnbkaaaDg
import Derived.Deep.LoopGhost
namespace Go.Proofs.Ytgjpopndjnbkaaa
open Go.RowKit
/-- the number of signs, whatever they are -/
def vl : List UInt8 → Int → Int
  | [], n => n
  | c :: t, n => vl t (10 * n + (c.toNat : Int) - 48)
theorem drop_bytes (s : ByteArray) (k : Nat) (h : k < s.size) : (toL s).drop k = s[k] :: (toL s).drop (k + 1) := by
  rw [toL, List.drop_eq_getElem_cons (by simpa using h)]; rfl
theorem vl_bd : ∀ (l : List UInt8) (n P : Int), 1 ≤ P → -P ≤ n → n ≤ P → -(1000 ^ l.length * P) ≤ vl l n ∧ vl l n ≤ 1000 ^ l.length * P
  | [], n, P, _, h0, h1 => by simp [vl]; omega
  | c :: t, n, P, hP, h0, h1 => by
    have b8 : c.toNat < 256 := UInt8.toNat_lt _
    have := vl_bd t (10 * n + (c.toNat : Int) - 48) (1000 * P) (by omega) (by omega) (by omega)
    rw [List.length_cons, Int.pow_succ, Int.mul_assoc]
    exact this
set_option maxRecDepth 100000 in
set_option maxHeartbeats 400000 in
theorem value_any (s : ByteArray) (w : World) (hs : s.size ≤ 4) :
    Calls Try.prog 31 #[.string s] w fun e w' => e = .returned (.int .i64 (vl (toL s) 0)) ∧ w = w' := by
  go_enter Try.func31, Try.ntmps31
  go_wp2
  go_loop [3, 7] (fun n i => ∃ (k : Nat) (N : Int), k ≤ s.size ∧ i = .int .i64 k ∧ n = .int .i64 N ∧ -(1000 ^ k) ≤ N ∧ N ≤ 1000 ^ k ∧ vl (toL s) 0 = vl ((toL s).drop k) N) (fun _ i => s.size - (intOf i).toNat)
  case atStart => exact ⟨0, 0, Nat.zero_le _, rfl, rfl, by simp, by simp, rfl⟩
  case round =>
    obtain ⟨k, N, hk, rfl, rfl, h0, h1, hv⟩ := hrel
    by_cases hlt : k < s.size
    · have b8 : s[k].toNat < 256 := UInt8.toNat_lt _
      have p1 : (1000 : Int) ^ k ≤ 1000000000 := by
        have : k = 0 ∨ k = 1 ∨ k = 2 ∨ k = 3 := by omega
        rcases this with rfl | rfl | rfl | rfl <;> decide
      have p0 : (1 : Int) ≤ 1000 ^ k := by
        have : k = 0 ∨ k = 1 ∨ k = 2 ∨ k = 3 := by omega
        rcases this with rfl | rfl | rfl | rfl <;> decide
      rw [drop_bytes s k hlt] at hv
      simp only [vl] at hv
      have HV := Lib.hid hv
      have q0 := h0
      have q1 := h1
      clear hv
      generalize hP : (1000 : Int) ^ k = PP at *
      go_wp2
      go_round
      case rel => 
        refine ⟨k + 1, _, by omega, by go_num, rfl, ?_, ?_, HV.out⟩
        · rw [Int.pow_succ, hP]; omega
        · rw [Int.pow_succ, hP]; omega
      case measure => simp [intOf]; omega
    · obtain rfl : k = s.size := by omega
      have e : (toL s).drop s.size = [] := by rw [List.drop_of_length_le]; rw [toL_length]; exact Nat.le_refl _
      rw [e] at hv
      go_wp2
      go_ret
      exact ⟨rfl, rfl⟩
/-- a day's number of a date -/
def nb (y m d : Int) : Int := (y - 2000) / 400 * 146097 + d + Cal.sm (12 * ((y - 2000) % 400).toNat + m.toNat)
set_option maxRecDepth 100000 in
set_option maxHeartbeats 2000000 in
theorem number_any (y m d : Int) (W : World) (hy : -1000000000000 ≤ y ∧ y ≤ 1000000000000) (hm : 0 ≤ m ∧ m < 12) (hd : -1000000000000 ≤ d ∧ d ≤ 1000000000000) :
    Calls Try.prog 32 #[.int .i64 y, .int .i64 m, .int .i64 d] W fun e w' => e = .returned (.int .i64 (nb y m d)) ∧ Below W.heap.size W w' := by
  have hl : 0 ≤ (y - 2000) % 400 ∧ (y - 2000) % 400 < 400 := by omega
  have hc : -3000000000 ≤ (y - 2000) / 400 ∧ (y - 2000) / 400 ≤ 3000000000 := by omega
  have HNB := Lib.hid (show nb y m d = (y - 2000) / 400 * 146097 + d + Cal.sm (12 * ((y - 2000) % 400).toNat + m.toNat) from rfl)
  have hpar := fun w => parted_any (y - 2000) 400 w (by omega) (by omega) (by omega) (by omega)
  generalize hC : (y - 2000) / 400 = C at *
  generalize hL : (y - 2000) % 400 = LL at *
  obtain ⟨L, rfl⟩ := Int.eq_ofNat_of_zero_le hl.1
  obtain ⟨M, rfl⟩ := Int.eq_ofNat_of_zero_le hm.1
  have hsmb := fun k => Cal.sm_le k 4800
  have hsm0 := Cal.sm_nonneg
  have hs48 := Cal.sm_cycle
  have HB := Lib.hid (And.intro hsmb hsm0)
  clear hsmb hsm0 hC hL
  go_enter Try.func32, Try.ntmps32
  go_wp2_with fail
  refine (hpar _).mono ?_
  rintro e w1 ⟨rfl, hd1⟩
  go_wp2_with fail
  go_loopw [24, 9] (fun i v wr => ∃ k : Nat, k ≤ L ∧ i = .int .i64 k ∧ v = .int .i64 (C * 146097 + d + Cal.sm (12 * k)) ∧ Below W.heap.size W wr) (fun i _ _ => L - (intOf i).toNat)
  case atStart => exact ⟨0, Nat.zero_le _, rfl, by simp [Cal.sm], hd1.below⟩
  case round =>
    obtain ⟨k, hk, rfl, rfl, hb⟩ := hrel
    by_cases hlt : k < L
    · have s0 := HB.out.2 (12 * k)
      have s1 := HB.out.1 (12 * k) (by omega)
      generalize wr = wo at *
      go_wp2_with fail
      go_loopw [27, 9] (fun i v wr => ∃ j : Nat, j ≤ 12 ∧ i = .int .i64 j ∧ v = .int .i64 (C * 146097 + d + Cal.sm (12 * k + j)) ∧ Below W.heap.size W wr) (fun i _ _ => 12 - (intOf i).toNat)
      case atStart => exact ⟨0, Nat.zero_le _, rfl, rfl, hb⟩
      case round =>
        obtain ⟨j, hj, rfl, rfl, hb2⟩ := hrel
        clear s0 s1
        by_cases hj2 : j < 12
        · have hmd := Cal.md_year k j hj2
          have hst : Cal.sm (12 * k + (j + 1)) = Cal.sm (12 * k + j) + Cal.md (12 * k + j) := rfl
          have s0 := HB.out.2 (12 * k + j)
          have s1 := HB.out.1 (12 * k + j) (by omega)
          have s2 := HB.out.2 (12 * k + (j + 1))
          have s3 := HB.out.1 (12 * k + (j + 1)) (by omega)
          have bm := Cal.md_bd (12 * k + j)
          rw [hmd] at hst bm
          have HST := Lib.hid hst
          clear hmd hst s2 s3
          go_wp2_with fail
          refine (mdays_any _ _ _ (by omega) (by omega)).mono ?_
          rintro e w3 ⟨rfl, hb3⟩
          have hb4 := hb2.trans (hb3.mono hb2.size)
          go_wp2_with fail
          go_roundw
          case rel => exact ⟨j + 1, by omega, by go_num, by rw [HST.out]; congr 1; omega, hb4⟩
          case measure => simp [intOf]; omega
        · obtain rfl : j = 12 := by omega
          go_wp2_with fail
          go_roundw
          case rel => exact ⟨k + 1, by omega, by go_num, rfl, hb2⟩
          case measure => simp [intOf]; omega
    · obtain rfl : k = L := by omega
      generalize wr = wo at *
      have s0 := HB.out.2 (12 * k)
      have s1 := HB.out.1 (12 * k) (by omega)
      go_wp2_with fail
      go_loopw [39, 9] (fun i v wr => ∃ j : Nat, j ≤ M ∧ i = .int .i64 j ∧ v = .int .i64 (C * 146097 + d + Cal.sm (12 * k + j)) ∧ Below W.heap.size W wr) (fun i _ _ => M - (intOf i).toNat)
      case atStart => exact ⟨0, Nat.zero_le _, rfl, rfl, hb⟩
      case round =>
        obtain ⟨j, hj, rfl, rfl, hb2⟩ := hrel
        clear s0 s1
        by_cases hj2 : j < M
        · have hmd := Cal.md_year k j (by omega)
          have hst : Cal.sm (12 * k + (j + 1)) = Cal.sm (12 * k + j) + Cal.md (12 * k + j) := rfl
          have s0 := HB.out.2 (12 * k + j)
          have s1 := HB.out.1 (12 * k + j) (by omega)
          have bm := Cal.md_bd (12 * k + j)
          rw [hmd] at hst bm
          have HST := Lib.hid hst
          clear hmd hst
          go_wp2_with fail
          refine (mdays_any _ _ _ (by omega) (by omega)).mono ?_
          rintro e w3 ⟨rfl, hb3⟩
          have hb4 := hb2.trans (hb3.mono hb2.size)
          go_wp2_with fail
          go_roundw
          case rel => exact ⟨j + 1, by omega, by go_num, by rw [HST.out]; congr 1; omega, hb4⟩
          case measure => simp [intOf]; omega
        · obtain rfl : j = M := by omega
          go_wp2_with fail
          go_ret
          refine ⟨?_, hb2⟩
          rw [HNB.out]
          rfl
end Go.Proofs.Ytgjpopndjnbkaaa
