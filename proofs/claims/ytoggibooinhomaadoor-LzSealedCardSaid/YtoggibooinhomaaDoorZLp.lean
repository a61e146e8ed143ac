/-
  THE WALK of the code's putRuns: a text behind a buffer, in runs.
-/
import Derived.Test.YtoggibooinhomaaDoorZLb
namespace Go.Proofs.YtoggibooinhomaaDoor.Z
open Go.RowKit
set_option linter.unusedVariables false
set_option linter.unusedSimpArgs false
theorem run_step (y : List UInt8) (h : y ≠ []) : Lz.run y = UInt8.ofNat (min y.length 128 - 1) :: (y.take (min y.length 128) ++ Lz.run (y.drop (min y.length 128))) := by
  by_cases h1 : 128 < y.length
  · rw [Lz.run_long y h1, show min y.length 128 = 128 from by omega]
    rfl
  · rw [Lz.run_short y h (by omega), show min y.length 128 = y.length from by omega]
    simp [Lz.run_nil]

/-- what has been put and what is left, put, are all that is to be put -/
def Put (l0 s l y : List UInt8) : Prop := l ++ Lz.run y = l0 ++ Lz.run s
def RunsP (B : Nat) (l0 s : List UInt8) (W0 : World) (e : Ending) (w' : World) : Prop := ∃ v, e = .returned v ∧ Buf B v (l0 ++ Lz.run s) W0 w'
set_option maxRecDepth 100000 in
set_option maxHeartbeats 1000000 in
theorem putRuns_any (B : Nat) (v : Value) (l0 : List UInt8) (W0 w : World) (s : ByteArray) (hb : Buf B v l0 W0 w) (hs : s.size ≤ 1000000) (hl : l0.length ≤ 1000000) :
    Calls Tryd.prog 13 #[v, .string s] w (RunsP B l0 (toL s) W0) := by
  go_enter Tryd.func13, Tryd.ntmps13
  go_wp2_with fail
  go_loopw [0, 1] (fun a b wr => ∃ (v : Value) (y : ByteArray) (l : List UInt8), a = v ∧ b = .string y ∧ y.size ≤ s.size ∧ Buf B v l W0 wr ∧ Hid (Put l0 (toL s) l (toL y))) (fun _ b _ => (match b with | .string y => y.size | _ => 0))
  case atStart => exact ⟨v, s, l0, rfl, rfl, Nat.le_refl _, hb, rfl⟩
  case round =>
    obtain ⟨v, y, l, rfl, rfl, hy, hB, hP⟩ := hrel
    by_cases h0 : 0 < y.size
    · by_cases h1 : 128 < y.size
      · have hlen : l.length + y.size ≤ 3000000 := by
          have := congrArg List.length hP.out
          simp only [List.length_append, Lz.run_length _ _ (Nat.le_refl _), toL_len] at this
          omega
        have hstep := run_step (toL y) (by rw [Ne, toL_nil]; omega)
        rw [toL_len, show min y.size 128 = 128 from by omega] at hstep
        have HP : Hid (Put l0 (toL s) ((l ++ [UInt8.ofNat (128 - 1)]) ++ toL (y.extract 0 128)) (toL (y.extract 128 y.size))) := by
          refine Lib.hid ?_
          unfold Put
          rw [← hP.out, hstep, toL_extract _ _ _ (by omega), toL_extract _ _ _ (Nat.le_refl _), ← toL_len y, List.take_length, List.drop_zero]
          simp
        have Z1 : Hid ((y.extract 0 128).size = 128) := Lib.hid (by rw [ByteArray.size_extract]; omega)
        have Z2 : Hid ((y.extract 128 y.size).size = y.size - 128) := Lib.hid (by rw [ByteArray.size_extract]; omega)
        have HL := Lib.hid hlen
        clear hstep hP hlen
        have HC : Hid ((127 : Int) = ((UInt8.ofNat (128 - 1)).toNat : Int)) := Lib.hid (by rw [UInt8.toNat_ofNat']; omega)
        go_wp2_with (at_builtin; go_must (first
          | (refine app_one rfl (.tmp 12) (.tmp 16) rfl B u0 l rfl W0 wr _ (UInt8.ofNat (128 - 1)) HC.out hB rfl (by have := HL.out; omega) ?_; intro v1 w1 hB1)
          | (refine app_str rfl (.tmp 18) (.tmp 21) rfl B _ (l ++ [UInt8.ofNat (128 - 1)]) rfl W0 _ ‹_› rfl (by have := HL.out; have := Z1.out; rw [List.length_append, List.length_singleton]; omega) ?_; intro v2 w2 hB2)))
        go_roundw
        case rel => exact ⟨_, _, _, rfl, rfl, by have := Z2.out; omega, ‹_›, HP⟩
        case measure => have := Z2.out; simp; omega
      · have hlen : l.length + y.size ≤ 3000000 := by
          have := congrArg List.length hP.out
          simp only [List.length_append, Lz.run_length _ _ (Nat.le_refl _), toL_len] at this
          omega
        have hstep := run_step (toL y) (by rw [Ne, toL_nil]; omega)
        rw [toL_len, show min y.size 128 = y.size from by omega] at hstep
        have HP : Hid (Put l0 (toL s) ((l ++ [UInt8.ofNat (y.size - 1)]) ++ toL (y.extract 0 y.size)) (toL (y.extract y.size y.size))) := by
          refine Lib.hid ?_
          unfold Put
          rw [← hP.out, hstep, toL_extract _ _ _ (by omega), toL_extract _ _ _ (Nat.le_refl _), ← toL_len y, List.take_length, List.drop_zero]
          simp
        have Z1 : Hid ((y.extract 0 y.size).size = y.size) := Lib.hid (by rw [ByteArray.size_extract]; omega)
        have Z2 : Hid ((y.extract y.size y.size).size = y.size - y.size) := Lib.hid (by rw [ByteArray.size_extract]; omega)
        have HL := Lib.hid hlen
        clear hstep hP hlen
        have HC : Hid ((y.size : Int) - 1 = ((UInt8.ofNat (y.size - 1)).toNat : Int)) := Lib.hid (by rw [UInt8.toNat_ofNat']; omega)
        go_wp2_with (at_builtin; go_must (first
          | (refine app_one rfl (.tmp 12) (.tmp 16) rfl B u0 l rfl W0 wr _ (UInt8.ofNat (y.size - 1)) HC.out hB rfl (by have := HL.out; omega) ?_; intro v1 w1 hB1)
          | (refine app_str rfl (.tmp 18) (.tmp 21) rfl B _ (l ++ [UInt8.ofNat (y.size - 1)]) rfl W0 _ ‹_› rfl (by have := HL.out; have := Z1.out; rw [List.length_append, List.length_singleton]; omega) ?_; intro v2 w2 hB2)))
        go_roundw
        case rel =>
          have e1 : y.extract 0 y.size = y := by simp
          have e2 : y.extract y.size y.size = ByteArray.empty := by simp
          rw [e1, e2] at HP
          exact ⟨_, _, _, rfl, rfl, Nat.zero_le _, ‹_›, HP⟩
        case measure => simp; omega
    · have e0 : toL y = [] := by rw [toL_nil]; omega
      have z0 : y.size = 0 := by omega
      have := hP.out
      unfold Put at this
      rw [e0, Lz.run_nil, List.append_nil] at this
      subst this
      clear hP e0
      go_wp2_with fail
      go_ret
      exact ⟨_, rfl, hB⟩
end Go.Proofs.YtoggibooinhomaaDoor.Z
