/-
  THE WALKS of numbers as bytes and of bytes as numbers, of the code and of the document's answer.
-/
import Derived.Test.YtdjejohppbkbcaaDoorNl
import Derived.Test.YtdjejohppbkbcaaDoorNv
import Derived.Deep.OwnRows
namespace Go.Proofs.YtdjejohppbkbcaaDoor
open Go.RowKit
namespace Nm
/-- a block behind so many rounds -/
def putArr (n K i : Nat) : Array Value := ((List.range K).map fun j => Value.int .u8 ((if j < i then n / 256 ^ j % 256 else 0 : Nat) : Int)).toArray
theorem putArr_get (n K i j : Nat) (hj : j < K) : (putArr n K i)[j]? = some (.int .u8 ((if j < i then n / 256 ^ j % 256 else 0 : Nat) : Int)) := by simp [putArr, hj]
theorem putArr_size (n K i : Nat) : (putArr n K i).size = K := by simp [putArr]
theorem putArr_zero (n K : Nat) : madeCells #[.int .u8 0] K = putArr n K 0 := by
  apply Array.ext_getElem?
  intro j
  by_cases hj : j < K
  · rw [putArr_get n K 0 j hj, if_neg (by omega)]
    simp [madeCells, hj, Nat.mod_one]
  · rw [Array.getElem?_eq_none (by simp [madeCells]; omega), Array.getElem?_eq_none (by rw [putArr_size]; omega)]
theorem putArr_next (n K i : Nat) (hi : i < K) : (putArr n K i).setIfInBounds i (.int .u8 ((n / 256 ^ i % 256 : Nat) : Int)) = putArr n K (i + 1) := by
  apply Array.ext_getElem?
  intro j
  by_cases hj : j < K
  · rw [putArr_get n K (i + 1) j hj, Array.getElem?_setIfInBounds]
    by_cases h : i = j
    · subst h
      rw [if_pos rfl, if_pos (by rw [putArr_size]; exact hi), if_pos (by omega)]
    · rw [if_neg h, putArr_get n K i j hj]
      by_cases h2 : j < i
      · rw [if_pos h2, if_pos (by omega)]
      · rw [if_neg h2, if_neg (by omega)]
  · rw [Array.getElem?_eq_none (by simp [putArr_size]; omega), Array.getElem?_eq_none (by rw [putArr_size]; omega)]
theorem put_nums (n K : Nat) : (((List.range K).map fun j => ((n / 256 ^ j % 256 : Nat) : Int)).map fun m => UInt8.ofNat m.toNat) = Nu.putB n K := by
  apply List.ext_getElem
  · simp [Nu.putB_length]
  · intro j h1 h2
    rw [Nu.putB_get, List.getElem_map, List.getElem_map, List.getElem_range, Int.toNat_natCast]
theorem put_conv (W : World) (g n K : Nat) (h : Own W g 5 (putArr n K K)) : (convert 39 9 (.slice (some ⟨g, 0, none⟩) K K)).run Tryd.prog W = .ok (.string ⟨(Nu.putB n K).toArray⟩) W := by
  have e := run_convert_bytes_arg W 39 5 Tryd.underlying39 Tryd.underlying5 g 0 K K ((List.range K).map fun j => ((n / 256 ^ j % 256 : Nat) : Int)) (by simp) (fun i hi => by
    rw [Nat.zero_add, h.cell, putArr_get n K K i hi, if_pos hi]
    simp [List.getD_eq_getElem?_getD, hi]) 9 Tryd.underlying9
  rw [e]
  unfold strOfNums
  rw [put_nums]
set_option maxRecDepth 100000 in
set_option maxHeartbeats 1000000 in
theorem put_any (n : Nat) (size : Int) (K : Nat) (w : World) (hn : n < 18446744073709551616) (eK : min (max size 0) 8 = (K : Int)) : Calls Tryd.prog 11 #[.int .u64 (n : Int), .int .i64 size] w fun e w' => e = .returned (.string ⟨(Nu.putB n K).toArray⟩) ∧ Below w.heap.size w w' := by
  have hK : K ≤ 8 := by omega
  have hmk := fun w => run_make_row' 39 5 (.int .u8 0) 1 Tryd.underlying39 info5b rfl .i64 .i64 K (by omega) (by omega) w
  have HP := Lib.hid (putArr_zero n K)
  have HN := Lib.hid hn
  clear hn
  go_enter Tryd.func11, Tryd.ntmps11
  go_wp2_with fail
  go_loopw [0, 14] (fun v i wr => ∃ k : Nat, k ≤ K ∧ i = .int .i64 k ∧ v = .int .u64 ((n / 256 ^ k : Nat) : Int) ∧ Own wr w.heap.size 5 (putArr n K k) ∧ Below w.heap.size w wr) (fun _ i _ => K - (intOf i).toNat)
  case atStart => exact ⟨0, Nat.zero_le _, rfl, by simp, by rw [← HP.out]; exact Own.new _ _ _, (Below.refl _ _).alloc (Nat.le_refl _) _⟩
  case round =>
    obtain ⟨k, hk, rfl, rfl, ho, hw⟩ := hrel
    clear hmk
    by_cases hlt : k < K
    · have c1 := (ho.cell k).trans (putArr_get n K k k hlt)
      have f1 := ho.frozen k
      have HS := Lib.hid (putArr_next n K k hlt)
      have hdv : n / 256 ^ k / 256 = n / 256 ^ (k + 1) := by rw [Nat.div_div_eq_div_mul, Nat.pow_succ]
      have HD := Lib.hid hdv
      clear hdv
      generalize hv : n / 256 ^ k = v at *
      clear hv
      go_wp2_with fail
      go_roundw
      case rel =>
        refine ⟨k + 1, by omega, by go_num, by rw [← HD.out]; rfl, ?_, hw.setCell (Nat.le_refl _) _⟩
        rw [← HS.out]
        exact ho.set k _
      case measure => simp [intOf]; omega
    · obtain rfl : k = K := by omega
      have cv := put_conv wr w.heap.size n k ho
      go_wp2_with fail
      go_ret
      exact ⟨rfl, hw⟩
theorem wrap_div (v : Nat) (h : v < 18446744073709551616) : IntKind.u64.wrap ((v : Int) / 256) = ((v / 256 : Nat) : Int) := by
  rw [IntKind.wrap_u64]; omega
theorem or_low (a b : Nat) (ha : a < 72057594037927936) (hb : b < 256) : bits .or .u64 ((a : Int) * 256) (b : Int) = ((b + 256 * a : Nat) : Int) := by
  rw [show ((a : Int) * 256) = ((a * 256 : Nat) : Int) from by omega, u64_or_nat _ _ (by omega) (by omega)]
  congr 1
  rw [show a * 256 = 2 ^ 8 * a from by omega, ← Nat.two_pow_add_eq_or_of_lt (by omega)]
  omega
/-- the first eight bytes -/
def low (s : ByteArray) : List UInt8 := (toL s).take 8
theorem low_length (s : ByteArray) : (low s).length = min s.size 8 := by simp [low, toL_length]; omega
theorem low_get (s : ByteArray) (k : Nat) (h : k < s.size) (h' : k < (low s).length) : (low s)[k] = s[k] := by simp [low, toL]; rfl
theorem get_drop_lt (s : ByteArray) (k : Nat) (h : 1 ≤ k) : Nu.getB ((low s).drop k) < 72057594037927936 := by
  have h1 := Nu.getB_lt ((low s).drop k)
  have h2 : ((low s).drop k).length ≤ 7 := by rw [List.length_drop, low_length]; omega
  have h3 : 256 ^ ((low s).drop k).length ≤ 256 ^ 7 := Nat.pow_le_pow_right (by omega) h2
  omega
end Nm
end Go.Proofs.YtdjejohppbkbcaaDoor
