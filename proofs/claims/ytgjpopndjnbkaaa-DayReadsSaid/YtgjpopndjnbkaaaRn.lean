/-
  THE WALK of the digits alone as a number, of the document's answer.
-/
import Derived.Test.YtgjpopndjnbkaaaRt
namespace Go.Proofs.Ytgjpopndjnbkaaa
open Go.RowKit Go.Shelf
/-- the number of digits alone; another sign makes it -1 -/
def rn : List UInt8 → Int → Int
  | [], n => n
  | c :: t, n => if c.toNat < 48 ∨ 57 < c.toNat then -1 else rn t (10 * n + (c.toNat : Int) - 48)
set_option maxRecDepth 100000 in
set_option maxHeartbeats 400000 in
theorem rnumber_any (s : ByteArray) (w : World) (hs : s.size ≤ 4) :
    Calls Try.prog 33 #[.string s] w fun e w' => e = .returned (.int .i64 (rn (toL s) 0)) ∧ w = w' := by
  go_enter Try.func33, Try.ntmps33
  go_wp2
  go_loop [3, 4] (fun n i => ∃ (k : Nat) (N : Int), k ≤ s.size ∧ i = .int .i64 k ∧ n = .int .i64 N ∧ 0 ≤ N ∧ N ≤ 1000 ^ k ∧ rn (toL s) 0 = rn ((toL s).drop k) N) (fun _ i => s.size - (intOf i).toNat)
  case atStart => exact ⟨0, 0, Nat.zero_le _, rfl, rfl, by simp, by simp, rfl⟩
  case round =>
    obtain ⟨k, N, hk, rfl, rfl, h0, h1, hv⟩ := hrel
    by_cases hlt : k < s.size
    · have b8 : s[k].toNat < 256 := UInt8.toNat_lt _
      have p1 : (1000 : Int) ^ k ≤ 1000000000 := by
        have : k = 0 ∨ k = 1 ∨ k = 2 ∨ k = 3 := by omega
        rcases this with rfl | rfl | rfl | rfl <;> decide
      have p0 : (1 : Int) ≤ 1000 ^ k := by
        have : k = 0 ∨ k = 1 ∨ k = 2 ∨ k = 3 := by omega
        rcases this with rfl | rfl | rfl | rfl <;> decide
      rw [drop_bytes s k hlt] at hv
      simp only [rn] at hv
      by_cases hc : s[k].toNat < 48 ∨ 57 < s[k].toNat
      · rw [if_pos hc] at hv
        have HV := Lib.hid hv
        clear hv h1
        rcases hc with hc | hc
        · go_wp2
          go_ret
          rw [HV.out]; exact ⟨rfl, rfl⟩
        · go_wp2
          go_ret
          rw [HV.out]; exact ⟨rfl, rfl⟩
      · rw [if_neg hc] at hv
        have HV := Lib.hid hv
        have c0 : 48 ≤ s[k].toNat := by omega
        have c1 : s[k].toNat ≤ 57 := by omega
        clear hv hc
        generalize hP : (1000 : Int) ^ k = PP at *
        go_wp2
        go_round
        case rel =>
          refine ⟨k + 1, _, by omega, by go_num, rfl, ?_, ?_, HV.out.trans ?_⟩
          · omega
          · rw [Int.pow_succ, hP]; omega
          · congr 1; omega
        case measure => simp [intOf]; omega
    · obtain rfl : k = s.size := by omega
      have e : (toL s).drop s.size = [] := by rw [List.drop_of_length_le]; rw [toL_length]; exact Nat.le_refl _
      rw [e] at hv
      go_wp2
      go_ret
      exact ⟨rfl, rfl⟩
end Go.Proofs.Ytgjpopndjnbkaaa
