/-
  THE WALKS of a length and of a row as bytes, as the document's answer writes them.
-/
import Derived.Test.YtaoaebdjinlcnaaDoorUNb
import Derived.RegionTactic
import Derived.Deep.QuietTactic
import Derived.BigQuiet
import Derived.Deep.RegionWith
set_option linter.unusedVariables false
set_option linter.unusedSimpArgs false
set_option maxRecDepth 100000
namespace Go.Proofs.YtaoaebdjinlcnaaDoor.Un
open Go.RowKit
namespace Nm
theorem conv_new (W : World) (x : Int) : (convert 45 9 (.slice (some ⟨W.heap.size, 0, none⟩) 1 1)).run Tryd.prog (W.alloc (.cells #[.int .u8 x] 5)) = .ok (.string ⟨#[UInt8.ofNat x.toNat]⟩) (W.alloc (.cells #[.int .u8 x] 5)) := by
  refine run_convert_bytes_arg _ 45 5 Tryd.underlying45 Tryd.underlying5 W.heap.size 0 1 1 [x] rfl (fun i hi => ?_) 9 Tryd.underlying9
  obtain rfl : i = 0 := by omega
  exact own1 _ _ _
theorem conv_new_drew (W : World) (x : Int) : (convert 45 9 (.slice (some ⟨W.heap.size, 0, none⟩) 1 1)).run Tryd.prog (W.alloc (.cells #[.int .u8 x] 5)).drew = .ok (.string ⟨#[UInt8.ofNat x.toNat]⟩) (W.alloc (.cells #[.int .u8 x] 5)).drew := by
  refine run_convert_bytes_arg _ 45 5 Tryd.underlying45 Tryd.underlying5 W.heap.size 0 1 1 [x] rfl (fun i hi => ?_) 9 Tryd.underlying9
  obtain rfl : i = 0 := by omega
  exact own1 _ _ _
theorem conv_one (W : World) (g : Nat) (x : Int) (h : W.cell? ⟨g, 0, none⟩ = some (.int .u8 x)) : (convert 45 9 (.slice (some ⟨g, 0, none⟩) 1 1)).run Tryd.prog W = .ok (.string ⟨#[UInt8.ofNat x.toNat]⟩) W := by
  refine run_convert_bytes_arg _ 45 5 Tryd.underlying45 Tryd.underlying5 g 0 1 1 [x] rfl (fun i hi => ?_) 9 Tryd.underlying9
  obtain rfl : i = 0 := by omega
  exact h
theorem conv_after {w w1 : World} {x : Int} (h : Below (w.alloc (.cells #[.int .u8 x] 5)).drew.heap.size (w.alloc (.cells #[.int .u8 x] 5)).drew w1) :
    (convert 45 9 (.slice (some ⟨w.heap.size, 0, none⟩) 1 1)).run Tryd.prog w1 = .ok (.string ⟨#[UInt8.ofNat x.toNat]⟩) w1 :=
  conv_one w1 w.heap.size x ((h.cell (p := ⟨w.heap.size, 0, none⟩) (by simp)).trans (own1 _ _ _))
theorem str_one (c : UInt8) (l : List UInt8) : (⟨#[c]⟩ : ByteArray) ++ ⟨l.toArray⟩ = ⟨(c :: l).toArray⟩ := by
  apply toL_inj
  simp [toL]
set_option maxRecDepth 100000 in
set_option maxHeartbeats 1000000 in
theorem length_any : ∀ (f n : Nat) (w : World), n < 128 ^ f → 0 < f → n ≤ 1000000000 →
    Calls Tryd.prog 45 #[.int .i64 (n : Int)] w fun e w' => e = .returned (.string ⟨(Nu.lenB n).toArray⟩) ∧ Below w.heap.size w w'
  | 0, n, w, h, h0, _ => by omega
  | f + 1, n, w, h, _, hb => by
    by_cases hs : n < 128
    · have HL := Lib.hid (Nu.lenB_small hs)
      go_enter Tryd.func45, Tryd.ntmps45
      have cv := conv_new
      go_wp2_with fail
      go_ret
      refine ⟨?_, (Below.refl _ _).alloc (Nat.le_refl _) _⟩
      rw [HL.out]
      simp
    · have HL := Lib.hid (Nu.lenB_great hs)
      have h1 : n / 128 < 128 ^ f := by
        rw [Nat.pow_succ] at h
        exact Nat.div_lt_of_lt_mul (by rw [Nat.mul_comm]; exact h)
      have h2 : 0 < f := by
        rcases Nat.eq_zero_or_pos f with h0 | h0
        · subst h0; simp at h1; omega
        · exact h0
      have ih : ∀ w, Calls Tryd.prog 45 #[.int .i64 ((n : Int) / 128)] w fun e w' => e = .returned (.string ⟨(Nu.lenB (n / 128)).toArray⟩) ∧ Below w.heap.size w w' := by
        intro w
        have e : ((n : Int) / 128) = ((n / 128 : Nat) : Int) := by omega
        rw [e]
        exact length_any f (n / 128) w h1 h2 (by omega)
      have IH := Lib.hid ih
      clear ih h
      have hsz := lenB_length_le f (n / 128) h1 h2
      have hsz2 : (Nu.lenB (n / 128)).length ≤ 5 := lenB_length_le 5 (n / 128) (by omega) (by omega)
      clear hsz
      have tm : ((n : Int)).tmod 128 = (n : Int) % 128 := Int.tmod_eq_emod_of_nonneg (by omega)
      have wq : IntKind.i64.wrap ((n : Int) / 128) = (n : Int) / 128 := IntWalk.i64_in _ (by omega)
      have ws : IntKind.i64.wrap ((n : Int) % 128 + 128) = (n : Int) % 128 + 128 := IntWalk.i64_in _ (by omega)
      have wb : IntKind.u8.wrap ((n : Int) % 128 + 128) = (n : Int) % 128 + 128 := by rw [IntKind.wrap_u8']; omega
      have cv := conv_new
      have cw := conv_new_drew
      go_enter Tryd.func45, Tryd.ntmps45
      go_wp2_with fail
      go_region_with (go_at_call 45; refine (IH.out _).mono ?_; rintro e w1 ⟨rfl, hw1⟩; try (have cz := conv_after hw1))
      all_goals
        go_wp2_with fail
        go_ret
        refine ⟨?_, ?_⟩
        · have ho : UInt8.ofNat (n % 128) + 128 = UInt8.ofNat (n % 128 + 128) := by simp
          rw [HL.out, ← ho]
          exact congrArg (fun s => Ending.returned (.string s)) (str_one _ _)
        · have sz := hw1.size
          first
            | exact (((Below.refl _ _).alloc (Nat.le_refl _) _).drew).trans (hw1.mono (by simp))
            | exact ((Below.refl _ _).drew.trans hw1).alloc (show w.heap.size ≤ w1.heap.size from sz) _
theorem str_app (a b : List UInt8) : (⟨a.toArray⟩ : ByteArray) ++ ⟨b.toArray⟩ = ⟨(a ++ b).toArray⟩ := by
  apply toL_inj
  simp [toL]
theorem str_eta (s : ByteArray) : (⟨(toL s).toArray⟩ : ByteArray) = s := by
  apply toL_inj
  simp [toL]
set_option maxRecDepth 100000 in
set_option maxHeartbeats 1000000 in
theorem rrow_any (A : Option Addr) (len cap : Nat) (l : List ByteArray) (w : World) (hl : Ts w A len l) (hsz : room l ≤ 1000000000) (hlen : len ≤ 200000000) :
    Calls Tryd.prog 25 #[.slice A len cap] w fun e w' => e = .returned (.string ⟨(Nu.rowB (l.map toL)).toArray⟩) ∧ Below w.heap.size w w' := by
  have H1 := Lib.hid hl.1
  go_enter Tryd.func25, Tryd.ntmps25
  go_wp2_with fail
  go_loopw [3, 8] (fun z i wr => ∃ k : Nat, k ≤ len ∧ i = .int .i64 k ∧ z = .string ⟨(Nu.rowB ((l.take k).map toL)).toArray⟩ ∧ Below w.heap.size w wr) (fun _ i _ => len - (intOf i).toNat)
  case atStart => exact ⟨0, Nat.zero_le _, rfl, rfl, Below.refl _ _⟩
  case round =>
    obtain ⟨k, hk, rfl, rfl, hw⟩ := hrel
    have s1 := hw.size
    by_cases hlt : k < len
    · obtain ⟨b, off, rfl, hc⟩ := hl.2 (by omega)
      have c1 := (hw.cell (World.block_lt_of_cell? _ _ (hc k hlt))).trans (hc k hlt)
      have r2 := room_take l k (by have := H1.out; omega)
      have r3 := room_le l (k + 1)
      have r4 := rowB_length_le (l.take k) (by have := room_le l k; omega)
      have r5 := lenB_length_le 5 (nth l k).size (by omega) (by omega)
      have R := Lib.hid (rowB_take l k (by have := H1.out; omega))
      generalize hacc : Nu.rowB ((l.take k).map toL) = acc at *
      have b1 : acc.length + (nth l k).size + 5 ≤ 1000000000 := by omega
      clear hc r2 r3 r4 hacc
      go_wp2_with fail
      refine (length_any 5 (nth l k).size _ (by omega) (by omega) (by omega)).mono ?_
      rintro e w2 ⟨rfl, hw2⟩
      go_wp2_with fail
      go_roundw
      case rel =>
        refine ⟨k + 1, by omega, by go_num, ?_, hw.trans (hw2.mono s1)⟩
        rw [R.out, List.append_assoc]
        rw [← str_app acc, ← str_app (Nu.lenB _), str_eta]
      case measure => simp [intOf]; omega
    · obtain rfl : k = len := by omega
      have hz : l.take k = l := List.take_of_length_le (by have := H1.out; omega)
      rw [hz]
      clear hz
      go_wp2_with fail
      go_ret
      exact ⟨rfl, hw⟩
end Nm
end Go.Proofs.YtaoaebdjinlcnaaDoor.Un
