/-
  THE WALKS of Check and Sum, the code's and the document's.
-/
import Derived.Test.YtingpadjciohjaaNs
namespace Go.Proofs.Ytingpadjciohjaa
open Go.RowKit
set_option linter.unusedVariables false
set_option linter.unusedSimpArgs false
/-- cuts' cells -/
def cc (w lo hi : Int) (m : Nat) : Array Value := #[.int .i64 w, .int .i64 lo, .int .i64 hi, .int .u32 (m : Nat)]
structure At (W : World) (g : Nat) (w lo hi : Int) (m : Nat) : Prop where
  c0 : W.cell? ⟨g, 0, none⟩ = some (.int .i64 w)
  c1 : W.cell? ⟨g, 1, none⟩ = some (.int .i64 lo)
  c2 : W.cell? ⟨g, 2, none⟩ = some (.int .i64 hi)
  c3 : W.cell? ⟨g, 3, none⟩ = some (.int .u32 (m : Nat))
theorem at_new (W : World) (w lo hi : Int) (m : Nat) (t : TypeId) : At (W.alloc (Obj.cells (cc w lo hi m) t)) W.heap.size w lo hi m := by
  have h : (W.alloc (Obj.cells (cc w lo hi m) t)).heap[W.heap.size]? = some (.cells (cc w lo hi m) t (0, 0)) := by
    show (W.heap.push _)[W.heap.size]? = _
    simp
  generalize W.alloc (Obj.cells (cc w lo hi m) t) = V at *
  generalize W.heap.size = g at *
  constructor <;> (unfold World.cell?; rw [h]; rfl)
theorem grow (wr : World) (o : Obj) : Below wr.heap.size wr (wr.alloc o) := (Below.refl _ _).alloc (Nat.le_refl _) _
theorem At.below {W V : World} {g : Nat} {w lo hi : Int} {m : Nat} (h : At W g w lo hi m) (hb : Below W.heap.size W V) : At V g w lo hi m := by
  have k := World.block_lt_of_cell? _ _ h.c0
  obtain ⟨a, b, c, d⟩ := h
  exact ⟨(hb.cell (p := ⟨g, 0, none⟩) k).trans a, (hb.cell (p := ⟨g, 1, none⟩) k).trans b, (hb.cell (p := ⟨g, 2, none⟩) k).trans c, (hb.cell (p := ⟨g, 3, none⟩) k).trans d⟩
theorem ret_int {k : IntKind} {a b : Int} (h : a = b) : Ending.returned (.int k a) = .returned (.int k b) := by rw [h]
/-- may cuts be? -/
def fitI (w lo hi : Int) : Prop := 1 ≤ w ∧ w ≤ 64 ∧ w ≤ lo ∧ lo ≤ hi ∧ hi ≤ 65536
instance (w lo hi : Int) : Decidable (fitI w lo hi) := by unfold fitI; infer_instance
def chk (w lo hi : Int) : Nat := if fitI w lo hi then 0 else 2
theorem chk_yes {w lo hi : Int} (h : fitI w lo hi) : chk w lo hi = 0 := if_pos h
theorem chk_no {w lo hi : Int} (h : ¬ fitI w lo hi) : chk w lo hi = 2 := if_neg h
set_option maxRecDepth 100000 in
set_option maxHeartbeats 1000000 in
theorem check_any (w lo hi : Int) (m : Nat) (W : World) :
    Calls Try.prog 13 #[.agg (cc w lo hi m)] W fun e W' => e = .returned (.int .i64 (chk w lo hi : Nat)) ∧ Below W.heap.size W W' := by
  obtain ⟨k0, k1, k2, k3⟩ := at_new W w lo hi m 24
  go_enter Try.func13, Try.ntmps13
  go_wp2
  all_goals
    go_ret
    refine ⟨ret_int ?_, grow _ _⟩
    clear k0 k1 k2 k3
    by_cases h : fitI w lo hi
    · rw [chk_yes h]; unfold fitI at h; omega
    · rw [chk_no h]; unfold fitI at h; omega
set_option maxRecDepth 100000 in
set_option maxHeartbeats 1000000 in
theorem rcheck_any (w lo hi : Int) (m : Nat) (W : World) :
    Calls Try.prog 14 #[.agg (cc w lo hi m)] W fun e W' => e = .returned (.int .i64 (chk w lo hi : Nat)) ∧ Below W.heap.size W W' := by
  obtain ⟨k0, k1, k2, k3⟩ := at_new W w lo hi m 24
  go_enter Try.func14, Try.ntmps14
  go_wp2
  all_goals
    go_ret
    refine ⟨ret_int ?_, grow _ _⟩
    clear k0 k1 k2 k3
    by_cases h : fitI w lo hi
    · rw [chk_yes h]; unfold fitI at h; omega
    · rw [chk_no h]; unfold fitI at h; omega
theorem take_snoc (s : ByteArray) (k : Nat) (h : k < s.size) : s.data.toList.take (k + 1) = s.data.toList.take k ++ [s[k]] := by
  rw [List.take_succ_eq_append_getElem (by simpa using h)]; rfl
set_option maxRecDepth 100000 in
theorem sum_any (s : ByteArray) (w : World) (hs : s.size ≤ 9223372036854775807) :
    Calls Try.prog 15 #[.string s] w fun e w' => e = .returned (.int .u32 (Ro.S s.data.toList : Nat)) ∧ w = w' := by
  go_enter Try.func15, Try.ntmps15
  go_wp2_with fail
  go_loop [3, 7] (fun n i => ∃ k : Nat, k ≤ s.size ∧ i = .int .i64 k ∧ n = .int .u32 (Ro.S (s.data.toList.take k) : Nat)) (fun _ i => s.size - (intOf i).toNat)
  case atStart => exact ⟨0, Nat.zero_le _, rfl, rfl⟩
  case round =>
    obtain ⟨k, hk, rfl, rfl⟩ := hrel
    by_cases hlt : k < s.size
    · have HS : Hid (Ro.S (s.data.toList.take (k + 1)) = (Ro.S (s.data.toList.take k) * 69069 + s[k].toNat + 1) % 4294967296) := Lib.hid (by rw [take_snoc s k hlt, Ro.S_snoc])
      have l1 := Ro.S_lt (s.data.toList.take k)
      generalize Ro.S (s.data.toList.take k) = a at *
      have l2 : (s[k].toNat : Int) < 256 := by have := s[k].toNat_lt; omega
      have l3 : (a : Int) < 4294967296 := by omega
      have l0 : (k : Int) < (s.size : Int) := by omega
      go_wp2
      go_round
      case rel => exact ⟨k + 1, by omega, by go_num, by rw [HS.out]; congr 1; omega⟩
      case measure => simp [intOf]; omega
    · obtain rfl : k = s.size := by omega
      go_wp2
      go_ret
      exact ⟨ret_int (by rw [List.take_of_length_le (by simp)]), rfl⟩
set_option maxRecDepth 100000 in
theorem rsum_any (s : ByteArray) (w : World) (hs : s.size ≤ 9223372036854775807) :
    Calls Try.prog 16 #[.string s] w fun e w' => e = .returned (.int .u32 (Ro.S s.data.toList : Nat)) ∧ w = w' := by
  go_enter Try.func16, Try.ntmps16
  go_wp2_with fail
  go_loop [3, 4] (fun n i => ∃ k : Nat, k ≤ s.size ∧ i = .int .i64 k ∧ n = .int .u32 (Ro.S (s.data.toList.take k) : Nat)) (fun _ i => s.size - (intOf i).toNat)
  case atStart => exact ⟨0, Nat.zero_le _, rfl, rfl⟩
  case round =>
    obtain ⟨k, hk, rfl, rfl⟩ := hrel
    by_cases hlt : k < s.size
    · have HS : Hid (Ro.S (s.data.toList.take (k + 1)) = (Ro.S (s.data.toList.take k) * 69069 + s[k].toNat + 1) % 4294967296) := Lib.hid (by rw [take_snoc s k hlt, Ro.S_snoc])
      have l1 := Ro.S_lt (s.data.toList.take k)
      generalize Ro.S (s.data.toList.take k) = a at *
      have l2 : (s[k].toNat : Int) < 256 := by have := s[k].toNat_lt; omega
      have l3 : (a : Int) < 4294967296 := by omega
      have l0 : (k : Int) < (s.size : Int) := by omega
      go_wp2
      go_round
      case rel => exact ⟨k + 1, by omega, by go_num, by rw [HS.out]; congr 1; omega⟩
      case measure => simp [intOf]; omega
    · obtain rfl : k = s.size := by omega
      go_wp2
      go_ret
      exact ⟨ret_int (by rw [List.take_of_length_le (by simp)]), rfl⟩
end Go.Proofs.Ytingpadjciohjaa
