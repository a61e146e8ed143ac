/-
  THE WALKS of Op, the code's and the document's.
-/
import Derived.Test.YtmafeekhbcpomaaDoorTa
namespace Go.Proofs.YtmafeekhbcpomaaDoor
open Go.RowKit
set_option linter.unusedVariables false
/-- the first name's number -/
def opTo (s : ByteArray) : Nat → Option Nat
  | 0 => none
  | k + 1 => match opTo s k with
    | some i => some i
    | none => if s = st (name (k + 1)) then some (k + 1) else none
theorem opTo_none {s : ByteArray} {k : Nat} (h : opTo s k = none) (hn : s ≠ st (name (k + 1))) : opTo s (k + 1) = none := by
  rw [opTo, h]; simp [hn]
theorem opTo_hit {s : ByteArray} {k : Nat} (h : opTo s k = none) (hn : s = st (name (k + 1))) : opTo s (k + 1) = some (k + 1) := by
  rw [opTo, h]; simp [hn]
theorem opTo_keep {s : ByteArray} {k i : Nat} (h : opTo s k = some i) : ∀ n, k ≤ n → opTo s n = some i := by
  intro n hn
  induction n with
  | zero => obtain rfl : k = 0 := by omega
            exact h
  | succ n ih =>
    by_cases e : k = n + 1
    · rw [← e]; exact h
    · rw [opTo, ih (by omega)]
def opOf (s : ByteArray) : Option Nat := opTo s 31
def opIs (s : ByteArray) (e : Ending) : Prop := e = match opOf s with
  | some i => .returned (.tuple #[.int .u8 (i : Nat), .bool true])
  | none => .returned (.tuple #[.int .u8 0, .bool false])
theorem opIs_hit {s : ByteArray} {k : Nat} (h : opTo s k = none) (hk : k < 31) (hn : s = st (name (k + 1))) : opIs s (.returned (.tuple #[.int .u8 ((k + 1 : Nat) : Int), .bool true])) := by
  unfold opIs opOf
  rw [opTo_keep (opTo_hit h hn) 31 (by omega)]
theorem opIs_none {s : ByteArray} (h : opTo s 31 = none) : opIs s (.returned (.tuple #[.int .u8 0, .bool false])) := by
  unfold opIs opOf
  rw [h]
set_option maxRecDepth 100000 in
set_option maxHeartbeats 1000000 in
theorem op_any (s : ByteArray) (w : World) (hT : Tab w) :
    Calls Tryd.prog 17 #[.string s] w fun e w' => opIs s e ∧ w = w' := by
  go_enter Tryd.func17, Tryd.ntmps17
  go_wp2_with fail
  go_loop [5] (fun i => ∃ k : Nat, k ≤ 32 ∧ opTo s (k - 1) = none ∧ i = .int .i64 k) (fun i => 32 - (intOf i).toNat)
  case atStart => exact ⟨0, by omega, rfl, rfl⟩
  case round =>
    obtain ⟨k, hk, hn, rfl⟩ := hrel
    have HN := Lib.hid hn
    clear hn
    by_cases h32 : k < 32
    · have l0 : (k : Int) < 32 := by omega
      by_cases h1 : 1 ≤ k
      · have kn := hT.names k h32
        have ho := decide_eq_true (p := Is.isOp k) ⟨h1, by omega⟩
        by_cases hs : st (name k) = s
        · have e1 : ((st (name k)).toList == s.toList) = true := by rw [hs]; exact beq_self_eq_true _
          have HS := Lib.hid hs
          clear hs
          go_wp2_with fail
          refine (isOp_any _ _).mono ?_
          rintro e w1 ⟨rfl, rfl⟩
          rw [ho]
          go_wp2_with fail
          go_ret2
          exact ⟨by
            obtain ⟨j, rfl⟩ : ∃ j, k = j + 1 := ⟨k - 1, by omega⟩
            exact opIs_hit HN.out (by omega) HS.out.symm, rfl⟩
        · have e1 : ((st (name k)).toList == s.toList) = false := by
            rw [beq_eq_false_iff_ne, Go.ByteArray.toList_eq, Go.ByteArray.toList_eq]
            intro h
            exact hs (ByteArray.ext (Array.toList_inj.1 h))
          have HS := Lib.hid hs
          clear hs
          go_wp2_with fail
          refine (isOp_any _ _).mono ?_
          rintro e w1 ⟨rfl, rfl⟩
          rw [ho]
          go_wp2_with fail
          go_round
          case rel => exact ⟨k + 1, by omega, by
            obtain ⟨j, rfl⟩ : ∃ j, k = j + 1 := ⟨k - 1, by omega⟩
            exact opTo_none HN.out (fun h => HS.out h.symm), by go_num⟩
          case measure => simp [intOf]; omega
      · obtain rfl : k = 0 := by omega
        have ho := decide_eq_false (p := Is.isOp 0) (fun h => by have := h.1; omega)
        go_wp2_with fail
        refine (isOp_any 0 _).mono ?_
        rintro e w1 ⟨rfl, rfl⟩
        rw [ho]
        go_wp2_with fail
        go_round
        case rel => exact ⟨1, by omega, rfl, by go_num⟩
        case measure => simp [intOf]
    · obtain rfl : k = 32 := by omega
      go_wp2_with fail
      go_ret2
      exact ⟨opIs_none HN.out, rfl⟩
set_option maxRecDepth 100000 in
theorem names_any (w : World) : Calls Tryd.prog 32 #[] w fun e w' => e = .returned (.slice (some ⟨w.heap.size, 0, none⟩) 31 31) ∧ w' = w.alloc (Obj.cells ((List.range 31).map fun i => Value.string (st (name (i + 1)))).toArray 9) := by
  go_enter Tryd.func32, Tryd.ntmps32
  go_wp2
  go_ret
  exact ⟨rfl, rfl⟩
theorem names_has (w : World) : Calls Tryd.prog 32 #[] w fun e w' => e = .returned (.slice (some ⟨w.heap.size, 0, none⟩) 31 31) ∧ Below w.heap.size w w' ∧ w.heap.size < w'.heap.size ∧ ∀ i, 1 ≤ i → i < 32 → w'.cell? ⟨w.heap.size, i - 1, none⟩ = some (.string (st (name i))) :=
  (names_any w).mono fun e w' ⟨he, hw⟩ => ⟨he, hw ▸ grow _ _, by rw [hw]; simp, fun i h1 h2 => by
    rw [hw]
    refine cells_new w _ 9 _ _ ?_
    simp only [List.getElem?_toArray, List.getElem?_map, List.getElem?_range (show i - 1 < 31 by omega), Option.map_some]
    rw [show i - 1 + 1 = i from by omega]⟩
set_option maxRecDepth 100000 in
set_option maxHeartbeats 1000000 in
theorem rop_any (s : ByteArray) (w : World) :
    Calls Tryd.prog 18 #[.string s] w fun e w' => opIs s e ∧ Below w.heap.size w w' := by
  have hnm := names_has w
  go_enter Tryd.func18, Tryd.ntmps18
  go_wp2_with fail
  refine hnm.mono ?_
  rintro e w1 ⟨rfl, hb, hs, hc⟩
  clear hnm
  have HC := Lib.hid hc
  clear hc
  go_wp2_with fail
  go_loop [5] (fun i => ∃ k : Nat, k ≤ 31 ∧ opTo s k = none ∧ i = .int .i64 k) (fun i => 31 - (intOf i).toNat)
  case atStart => exact ⟨0, by omega, rfl, rfl⟩
  case round =>
    obtain ⟨k, hk, hn, rfl⟩ := hrel
    have HN := Lib.hid hn
    clear hn
    by_cases h31 : k < 31
    · have l0 : (k : Int) < 31 := by omega
      have kn := HC.out (k + 1) (by omega) (by omega)
      rw [Nat.add_sub_cancel] at kn
      by_cases hs : st (name (k + 1)) = s
      · have e1 : ((st (name (k + 1))).toList == s.toList) = true := by rw [hs]; exact beq_self_eq_true _
        have HS := Lib.hid hs
        clear hs
        go_wp2_with fail
        go_ret2
        exact ⟨opIs_hit HN.out (by omega) HS.out.symm, hb⟩
      · have e1 : ((st (name (k + 1))).toList == s.toList) = false := by
          rw [beq_eq_false_iff_ne, Go.ByteArray.toList_eq, Go.ByteArray.toList_eq]
          intro h
          exact hs (ByteArray.ext (Array.toList_inj.1 h))
        have HS := Lib.hid hs
        clear hs
        go_wp2_with fail
        go_round
        case rel => exact ⟨k + 1, by omega, opTo_none HN.out (fun h => HS.out h.symm), by go_num⟩
        case measure => simp [intOf]; omega
    · obtain rfl : k = 31 := by omega
      go_wp2_with fail
      go_ret2
      exact ⟨opIs_none HN.out, hb⟩
end Go.Proofs.YtmafeekhbcpomaaDoor
