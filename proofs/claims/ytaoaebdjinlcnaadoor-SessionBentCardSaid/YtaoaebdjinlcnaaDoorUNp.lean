/-
  THE WALKS of numbers as bytes and of bytes as numbers, of the code and of the document's answer.
-/
import Derived.Test.YtaoaebdjinlcnaaDoorUNu
import Derived.Test.YtaoaebdjinlcnaaDoorUNl
import Derived.Deep.OwnRows
set_option linter.unusedVariables false
set_option linter.unusedSimpArgs false
set_option maxRecDepth 100000
namespace Nu
def putB : Nat → Nat → List UInt8
  | _, 0 => []
  | n, k + 1 => UInt8.ofNat (n % 256) :: putB (n / 256) k
def getB : List UInt8 → Nat
  | [] => 0
  | c :: t => c.toNat + 256 * getB t
theorem putB_length : ∀ (n k : Nat), (putB n k).length = k
  | _, 0 => rfl
  | n, k + 1 => by simp [putB, putB_length (n / 256) k]
theorem getB_lt : ∀ l : List UInt8, getB l < 256 ^ l.length
  | [] => by simp [getB]
  | c :: t => by
    have ih := getB_lt t
    have hc : c.toNat < 256 := c.toNat_lt
    rw [getB, List.length_cons, Nat.pow_succ]
    omega
theorem getB_drop {l : List UInt8} {k : Nat} (h : k < l.length) : getB (l.drop k) = l[k].toNat + 256 * getB (l.drop (k + 1)) := by
  rw [List.drop_eq_getElem_cons h]; rfl
theorem get_put : ∀ (k n : Nat), getB (putB n k) = n % 256 ^ k
  | 0, n => by simp [getB, putB, Nat.mod_one]
  | k + 1, n => by
    rw [putB, getB, get_put k, Nat.pow_succ, Nat.mul_comm (256 ^ k) 256, Nat.mod_mul, toNat_ofNat (Nat.mod_lt _ (by omega))]
theorem put_get : ∀ l : List UInt8, putB (getB l) l.length = l
  | [] => rfl
  | c :: t => by
    have hc : c.toNat < 256 := c.toNat_lt
    have e1 : (c.toNat + 256 * getB t) % 256 = c.toNat := by omega
    have e2 : (c.toNat + 256 * getB t) / 256 = getB t := by omega
    rw [getB, List.length_cons, putB, e1, e2, put_get t, UInt8.ofNat_toNat]
theorem putB_get : ∀ (k n j : Nat) (h : j < (putB n k).length), (putB n k)[j] = UInt8.ofNat (n / 256 ^ j % 256)
  | 0, _, j, h => by simp [putB] at h
  | k + 1, n, 0, h => by simp [putB]
  | k + 1, n, j + 1, h => by
    have h' : j < (putB (n / 256) k).length := by simpa [putB] using h
    have e := putB_get k (n / 256) j h'
    simp only [putB, List.getElem_cons_succ, e]
    congr 2
    rw [Nat.pow_succ, Nat.mul_comm (256 ^ j) 256, ← Nat.div_div_eq_div_mul]
theorem putB_snoc (n k : Nat) : putB n (k + 1) = putB n k ++ [UInt8.ofNat (n / 256 ^ k % 256)] := by
  apply List.ext_getElem
  · simp [putB_length]
  · intro i h1 h2
    rw [putB_get]
    by_cases h : i < k
    · rw [List.getElem_append_left (by rw [putB_length]; exact h), putB_get]
    · have : i = k := by rw [putB_length] at h1; omega
      subst this
      rw [List.getElem_append_right (by rw [putB_length]; omega)]
      simp [putB_length]
end Nu
set_option linter.unusedVariables false
set_option linter.unusedSimpArgs false
set_option maxRecDepth 100000
namespace Go.Proofs.YtaoaebdjinlcnaaDoor.Un
open Go.RowKit
namespace Nm
/-- a block behind so many rounds -/
def putArr (n K i : Nat) : Array Value := ((List.range K).map fun j => Value.int .u8 ((if j < i then n / 256 ^ j % 256 else 0 : Nat) : Int)).toArray
theorem putArr_get (n K i j : Nat) (hj : j < K) : (putArr n K i)[j]? = some (.int .u8 ((if j < i then n / 256 ^ j % 256 else 0 : Nat) : Int)) := by simp [putArr, hj]
theorem putArr_size (n K i : Nat) : (putArr n K i).size = K := by simp [putArr]
theorem putArr_zero (n K : Nat) : madeCells #[.int .u8 0] K = putArr n K 0 := by
  apply Array.ext_getElem?
  intro j
  by_cases hj : j < K
  · rw [putArr_get n K 0 j hj, if_neg (by omega)]
    simp [madeCells, hj, Nat.mod_one]
  · rw [Array.getElem?_eq_none (by simp [madeCells]; omega), Array.getElem?_eq_none (by rw [putArr_size]; omega)]
theorem putArr_next (n K i : Nat) (hi : i < K) : (putArr n K i).setIfInBounds i (.int .u8 ((n / 256 ^ i % 256 : Nat) : Int)) = putArr n K (i + 1) := by
  apply Array.ext_getElem?
  intro j
  by_cases hj : j < K
  · rw [putArr_get n K (i + 1) j hj, Array.getElem?_setIfInBounds]
    by_cases h : i = j
    · subst h
      rw [if_pos rfl, if_pos (by rw [putArr_size]; exact hi), if_pos (by omega)]
    · rw [if_neg h, putArr_get n K i j hj]
      by_cases h2 : j < i
      · rw [if_pos h2, if_pos (by omega)]
      · rw [if_neg h2, if_neg (by omega)]
  · rw [Array.getElem?_eq_none (by simp [putArr_size]; omega), Array.getElem?_eq_none (by rw [putArr_size]; omega)]
theorem put_nums (n K : Nat) : (((List.range K).map fun j => ((n / 256 ^ j % 256 : Nat) : Int)).map fun m => UInt8.ofNat m.toNat) = Nu.putB n K := by
  apply List.ext_getElem
  · simp [Nu.putB_length]
  · intro j h1 h2
    rw [Nu.putB_get, List.getElem_map, List.getElem_map, List.getElem_range, Int.toNat_natCast]
theorem put_conv (W : World) (g n K : Nat) (h : Own W g 5 (putArr n K K)) : (convert 45 9 (.slice (some ⟨g, 0, none⟩) K K)).run Tryd.prog W = .ok (.string ⟨(Nu.putB n K).toArray⟩) W := by
  have e := run_convert_bytes_arg W 45 5 Tryd.underlying45 Tryd.underlying5 g 0 K K ((List.range K).map fun j => ((n / 256 ^ j % 256 : Nat) : Int)) (by simp) (fun i hi => by
    rw [Nat.zero_add, h.cell, putArr_get n K K i hi, if_pos hi]
    simp [List.getD_eq_getElem?_getD, hi]) 9 Tryd.underlying9
  rw [e]
  unfold strOfNums
  rw [put_nums]
set_option maxRecDepth 100000 in
set_option maxHeartbeats 1000000 in
theorem put_any (n : Nat) (size : Int) (K : Nat) (w : World) (hn : n < 18446744073709551616) (eK : min (max size 0) 8 = (K : Int)) : Calls Tryd.prog 54 #[.int .u64 (n : Int), .int .i64 size] w fun e w' => e = .returned (.string ⟨(Nu.putB n K).toArray⟩) ∧ Below w.heap.size w w' := by
  have hK : K ≤ 8 := by omega
  have hmk := fun w => run_make_row' 45 5 (.int .u8 0) 1 Tryd.underlying45 info5b rfl .i64 .i64 K (by omega) (by omega) w
  have HP := Lib.hid (putArr_zero n K)
  have HN := Lib.hid hn
  clear hn
  go_enter Tryd.func54, Tryd.ntmps54
  go_wp2_with fail
  go_loopw [0, 14] (fun v i wr => ∃ k : Nat, k ≤ K ∧ i = .int .i64 k ∧ v = .int .u64 ((n / 256 ^ k : Nat) : Int) ∧ Own wr w.heap.size 5 (putArr n K k) ∧ Below w.heap.size w wr) (fun _ i _ => K - (intOf i).toNat)
  case atStart => exact ⟨0, Nat.zero_le _, rfl, by simp, by rw [← HP.out]; exact Own.new _ _ _, (Below.refl _ _).alloc (Nat.le_refl _) _⟩
  case round =>
    obtain ⟨k, hk, rfl, rfl, ho, hw⟩ := hrel
    clear hmk
    by_cases hlt : k < K
    · have c1 := (ho.cell k).trans (putArr_get n K k k hlt)
      have f1 := ho.frozen k
      have HS := Lib.hid (putArr_next n K k hlt)
      have hdv : n / 256 ^ k / 256 = n / 256 ^ (k + 1) := by rw [Nat.div_div_eq_div_mul, Nat.pow_succ]
      have HD := Lib.hid hdv
      clear hdv
      generalize hv : n / 256 ^ k = v at *
      clear hv
      go_wp2_with fail
      go_roundw
      case rel =>
        refine ⟨k + 1, by omega, by go_num, by rw [← HD.out]; rfl, ?_, hw.setCell (Nat.le_refl _) _⟩
        rw [← HS.out]
        exact ho.set k _
      case measure => simp [intOf]; omega
    · obtain rfl : k = K := by omega
      have cv := put_conv wr w.heap.size n k ho
      go_wp2_with fail
      go_ret
      exact ⟨rfl, hw⟩
theorem wrap_div (v : Nat) (h : v < 18446744073709551616) : IntKind.u64.wrap ((v : Int) / 256) = ((v / 256 : Nat) : Int) := by
  rw [IntKind.wrap_u64]; omega
set_option maxRecDepth 100000 in
set_option maxHeartbeats 1000000 in
theorem rput_any (n : Nat) (size : Int) (K : Nat) (w : World) (hn : n < 18446744073709551616) (eK : min (max size 0) 8 = (K : Int)) : Calls Tryd.prog 35 #[.int .u64 (n : Int), .int .i64 size] w fun e w' => e = .returned (.string ⟨(Nu.putB n K).toArray⟩) ∧ Below w.heap.size w w' := by
  have hK : K ≤ 8 := by omega
  have b1 : size ≤ K ∨ K = 8 := by omega
  have b2 : (K : Int) ≤ size ∨ K = 0 := by omega
  have HN := Lib.hid hn
  clear hn eK
  go_enter Tryd.func35, Tryd.ntmps35
  go_wp2_with fail
  go_loopw [0, 5, 6] (fun v z i wr => ∃ k : Nat, k ≤ K ∧ i = .int .i64 k ∧ v = .int .u64 ((n / 256 ^ k : Nat) : Int) ∧ z = .string ⟨(Nu.putB n k).toArray⟩ ∧ Below w.heap.size w wr) (fun _ _ i _ => K - (intOf i).toNat)
  case atStart => exact ⟨0, Nat.zero_le _, rfl, by simp, rfl, Below.refl _ _⟩
  case round =>
    obtain ⟨k, hk, rfl, rfl, rfl, hw⟩ := hrel
    by_cases hlt : k < K
    · have d1 : (k : Int) < size := by omega
      have d2 : (k : Int) < 8 := by omega
      have hdv : n / 256 ^ k / 256 = n / 256 ^ (k + 1) := by rw [Nat.div_div_eq_div_mul, Nat.pow_succ]
      have HD := Lib.hid hdv
      have hp := Nu.putB_snoc n k
      have HP := Lib.hid hp
      have hsz : (Nu.putB n k).length ≤ 8 := by rw [Nu.putB_length]; omega
      have hv64 := Nat.lt_of_le_of_lt (Nat.div_le_self n (256 ^ k)) HN.out
      have HW := Lib.hid (wrap_div _ hv64)
      clear hdv hp b1 b2 hv64
      generalize hv : n / 256 ^ k = v at *
      clear hv
      have cv := conv_new
      go_wp2_with fail
      go_roundw
      case rel =>
        refine ⟨k + 1, by omega, by go_num, by rw [HW.out, HD.out], ?_, hw.alloc hw.size _⟩
        rw [HP.out]
        exact congrArg Value.string (str_app _ [UInt8.ofNat (v % 256)])
      case measure => simp [intOf]; omega
    · obtain rfl : k = K := by omega
      by_cases d1 : (k : Int) < size
      · have d2 : ¬ (k : Int) < 8 := by omega
        clear b1 b2
        go_wp2_with fail
        go_ret
        exact ⟨rfl, hw⟩
      · clear b1 b2
        go_wp2_with fail
        go_ret
        exact ⟨rfl, hw⟩
theorem or_low (a b : Nat) (ha : a < 72057594037927936) (hb : b < 256) : bits .or .u64 ((a : Int) * 256) (b : Int) = ((b + 256 * a : Nat) : Int) := by
  rw [show ((a : Int) * 256) = ((a * 256 : Nat) : Int) from by omega, u64_or_nat _ _ (by omega) (by omega)]
  congr 1
  rw [show a * 256 = 2 ^ 8 * a from by omega, ← Nat.two_pow_add_eq_or_of_lt (by omega)]
  omega
/-- the first eight bytes -/
def low (s : ByteArray) : List UInt8 := (toL s).take 8
theorem low_length (s : ByteArray) : (low s).length = min s.size 8 := by simp [low, toL_length]; omega
theorem low_get (s : ByteArray) (k : Nat) (h : k < s.size) (h' : k < (low s).length) : (low s)[k] = s[k] := by simp [low, toL]; rfl
theorem get_drop_lt (s : ByteArray) (k : Nat) (h : 1 ≤ k) : Nu.getB ((low s).drop k) < 72057594037927936 := by
  have h1 := Nu.getB_lt ((low s).drop k)
  have h2 : ((low s).drop k).length ≤ 7 := by rw [List.length_drop, low_length]; omega
  have h3 : 256 ^ ((low s).drop k).length ≤ 256 ^ 7 := Nat.pow_le_pow_right (by omega) h2
  omega
set_option maxRecDepth 100000 in
set_option maxHeartbeats 1000000 in
theorem get_any (s : ByteArray) (w : World) (hs : s.size ≤ 9223372036854775807) : Calls Tryd.prog 39 #[.string s] w fun e w' => e = .returned (.int .u64 (Nu.getB (low s) : Nat)) ∧ w = w' := by
  obtain ⟨M, eM⟩ : ∃ M : Nat, min (s.size : Int) 8 = (M : Int) := ⟨min s.size 8, by omega⟩
  have hM : M ≤ 8 ∧ M ≤ s.size := by omega
  have hl : (low s).length = M := by rw [low_length]; omega
  have HL := Lib.hid hl
  clear hl
  go_enter Tryd.func39, Tryd.ntmps39
  go_wp2_with fail
  go_loop [3, 4] (fun v i => ∃ k : Nat, k ≤ M ∧ i = .int .i64 ((k : Int) - 1) ∧ v = .int .u64 (Nu.getB ((low s).drop k) : Nat)) (fun _ i => (intOf i + 1).toNat)
  case atStart => exact ⟨M, Nat.le_refl _, rfl, by rw [List.drop_of_length_le (by have := HL.out; omega)]; rfl⟩
  case round =>
    obtain ⟨k, hk, rfl, rfl⟩ := hrel
    by_cases hlt : 1 ≤ k
    · obtain ⟨j, rfl⟩ : ∃ j, k = j + 1 := ⟨k - 1, by omega⟩
      have hjs : j < s.size := by omega
      have hjl : j < (low s).length := by have := HL.out; omega
      have e1 := Nu.getB_drop hjl
      rw [low_get s j hjs hjl] at e1
      have g := get_drop_lt s (j + 1) (by omega)
      have b8 : s[j].toNat < 256 := UInt8.toNat_lt _
      have X := Lib.hid (or_low (Nu.getB ((low s).drop (j + 1))) s[j].toNat g b8)
      have HE := Lib.hid e1
      clear e1 hjl eM
      generalize hv : Nu.getB ((low s).drop (j + 1)) = v at *
      clear hv
      have hz : ((j + 1 : Nat) : Int) - 1 = (j : Int) := by omega
      rw [hz]
      clear hz
      go_wp2_with fail
      go_round
      case rel =>
        refine ⟨j, by omega, rfl, ?_⟩
        rw [HE.out, ← X.out]
      case measure => simp [intOf]
    · obtain rfl : k = 0 := by omega
      clear eM
      go_wp2_with fail
      go_ret
      exact ⟨rfl, rfl⟩
set_option maxRecDepth 100000 in
set_option maxHeartbeats 1000000 in
theorem rget_any (s : ByteArray) (w : World) (hs : s.size ≤ 9223372036854775807) : Calls Tryd.prog 42 #[.string s] w fun e w' => e = .returned (.int .u64 (Nu.getB (low s) : Nat)) ∧ w = w' := by
  have HL := Lib.hid (low_length s)
  go_enter Tryd.func42, Tryd.ntmps42
  go_wp2_with fail
  go_loop [3, 4] (fun v i => ∃ k : Nat, k ≤ s.size ∧ i = .int .i64 ((k : Int) - 1) ∧ v = .int .u64 (Nu.getB ((low s).drop k) : Nat)) (fun _ i => (intOf i + 1).toNat)
  case atStart => exact ⟨s.size, Nat.le_refl _, rfl, by rw [List.drop_of_length_le (by have := HL.out; omega)]; rfl⟩
  case round =>
    obtain ⟨k, hk, rfl, rfl⟩ := hrel
    by_cases hlt : 1 ≤ k
    · obtain ⟨j, rfl⟩ : ∃ j, k = j + 1 := ⟨k - 1, by omega⟩
      have hjs : j < s.size := by omega
      have hz : ((j + 1 : Nat) : Int) - 1 = (j : Int) := by omega
      rw [hz]
      clear hz
      by_cases h8 : j < 8
      · have hjl : j < (low s).length := by have := HL.out; omega
        have e1 := Nu.getB_drop hjl
        rw [low_get s j hjs hjl] at e1
        have g := get_drop_lt s (j + 1) (by omega)
        have b8 : s[j].toNat < 256 := UInt8.toNat_lt _
        have HE := Lib.hid e1
        clear e1 hjl
        generalize hv : Nu.getB ((low s).drop (j + 1)) = v at *
        clear hv
        go_wp2_with fail
        go_round
        case rel =>
          refine ⟨j, by omega, rfl, ?_⟩
          rw [HE.out]
          exact congrArg (Value.int .u64) (by omega)
        case measure => simp [intOf]
      · have e2 : (low s).drop (j + 1) = (low s).drop j := by
          rw [List.drop_of_length_le (by have := HL.out; omega), List.drop_of_length_le (by have := HL.out; omega)]
        have HE := Lib.hid e2
        clear e2
        go_wp2_with fail
        go_round
        case rel => exact ⟨j, by omega, rfl, by rw [HE.out]⟩
        case measure => simp [intOf]
    · obtain rfl : k = 0 := by omega
      go_wp2_with fail
      go_ret
      exact ⟨rfl, rfl⟩
end Nm
end Go.Proofs.YtaoaebdjinlcnaaDoor.Un
