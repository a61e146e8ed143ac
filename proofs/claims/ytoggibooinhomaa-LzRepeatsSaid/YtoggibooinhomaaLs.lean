/-
  THE WALKS of the document's same, best and run.
-/
import Derived.Test.YtoggibooinhomaaLb
import Derived.RegionTactic
import Derived.BigRegion
import Derived.Deep.RegionWith
namespace Go.Proofs.Ytoggibooinhomaa
open Go.RowKit
set_option linter.unusedVariables false
set_option linter.unusedSimpArgs false
theorem ret_int {k : IntKind} {a b : Int} (h : a = b) : Ending.returned (.int k a) = .returned (.int k b) := by rw [h]
theorem get_toL (s : ByteArray) (i : Nat) (h : i < s.size) : (toL s)[i]? = some s[i] := by
  rw [List.getElem?_eq_getElem (by rw [toL_len]; exact h)]
  rfl
/-- so many bytes stand alike at two places -/
def Alike (l : List UInt8) (i j k : Nat) : Prop := k ≤ 131 ∧ i + k ≤ l.length ∧ ∀ m, m < k → l[i + m]? = l[j + m]?
theorem alike_next {s : ByteArray} {i j k : Nat} (h : Alike (toL s) i j k) (h1 : i + k < s.size) (h2 : k < 131) (hji : j ≤ i) (e : s[i + k] = s[j + k]) : Alike (toL s) i j (k + 1) := by
  refine ⟨by omega, by rw [toL_len]; omega, fun m hm => ?_⟩
  by_cases hmk : m = k
  · subst hmk
    rw [get_toL s _ h1, get_toL s _ (by omega), e]
  · exact h.2.2 m (by omega)
theorem alike_end {s : ByteArray} {i j k : Nat} (h : Alike (toL s) i j k) (hji : j ≤ i) (e : k = 131 ∨ i + k = s.size ∨ ∃ h1 : i + k < s.size, s[i + k] ≠ s[j + k]) : Lz.sm (toL s) i j = k := by
  refine Lz.sm_eq _ i j k hji h.1 h.2.1 h.2.2 ?_
  rcases e with e | e | ⟨h1, e⟩
  · exact .inl e
  · right; left; rw [toL_len]; exact e
  · right; right
    rw [get_toL s _ h1, get_toL s _ (by omega)]
    simpa using e
theorem byte_ne {a b : UInt8} (h : a ≠ b) : ((a.toNat : Int) == (b.toNat : Int)) = false := by
  rw [beq_eq_false_iff_ne]
  intro e
  exact h (UInt8.toNat_inj.1 (by omega))
set_option maxRecDepth 100000 in
set_option maxHeartbeats 1000000 in
theorem rsame_any (s : ByteArray) (i far : Nat) (w : World) (hs : s.size ≤ 1000000) (hi : i ≤ s.size) (h1 : 1 ≤ far) (hf : far ≤ i) :
    Calls Try.prog 22 #[.string s, .int .i64 i, .int .i64 far] w fun e w' => e = .returned (.int .i64 (Lz.sm (toL s) i (i - far) : Nat)) ∧ Below w.heap.size w w' := by
  go_enter Try.func22, Try.ntmps22
  go_wp2_with fail
  go_loopw [7] (fun n wr => ∃ k : Nat, n = .int .i64 k ∧ Below w.heap.size w wr ∧ Hid (Alike (toL s) i (i - far) k)) (fun n _ => 131 - (intOf n).toNat)
  case atStart => exact ⟨0, rfl, Below.refl _ _, ⟨by omega, by rw [toL_len]; omega, fun m hm => by omega⟩⟩
  case round =>
    obtain ⟨k, rfl, hb, hA⟩ := hrel
    have hk : k ≤ 131 := hA.out.1
    by_cases c1 : i + k < s.size
    · have d1 : (i : Int) + (k : Int) < (s.size : Int) := by omega
      by_cases c2 : k < 131
      · obtain ⟨p, hp⟩ : ∃ p, p = i + k := ⟨_, rfl⟩
        obtain ⟨q, hq⟩ : ∃ q, q = i + k - far := ⟨_, rfl⟩
        have e1 : (i : Int) + (k : Int) = (p : Int) := by omega
        have e2 : (p : Int) - (far : Int) = (q : Int) := by omega
        have w1 : IntKind.i64.wrap (p : Int) = (p : Int) := IntWalk.i64_in _ (by omega)
        have w2 : IntKind.i64.wrap (q : Int) = (q : Int) := IntWalk.i64_in _ (by omega)
        have p0 : (0 : Int) ≤ (p : Int) := by omega
        have p1 : (p : Int) < (s.size : Int) := by omega
        have q0 : (0 : Int) ≤ (q : Int) := by omega
        have q1 : (q : Int) < (s.size : Int) := by omega
        have k1 : (k : Int) < 131 := by omega
        have p2 : p < s.size := by omega
        have q2 : q < s.size := by omega
        clear d1
        by_cases c3 : s[p] = s[q]
        · have HN : Hid (Alike (toL s) i (i - far) (k + 1)) := Lib.hid (alike_next hA.out c1 c2 (by omega) (by
            subst hp hq
            rw [c3]
            congr 1
            omega))
          have tb : ((s[p].toNat : Int) == (s[q].toNat : Int)) = true := by rw [c3]; exact beq_self_eq_true _
          clear c3 hA hp hq
          go_wp2_with fail
          go_quiet (fail)
          go_wp2_with fail
          go_roundw
          case rel => exact ⟨k + 1, by go_num, ⟨hb.os, hb.tape, hb.output, hb.size, hb.block⟩, HN⟩
          case measure => simp [intOf]; omega
        · have HE := Lib.hid (alike_end hA.out (show i - far ≤ i by omega) (.inr (.inr ⟨c1, by
            subst hp hq
            intro e
            apply c3
            rw [e]
            congr 1
            omega⟩)))
          have tb := byte_ne c3
          clear c3 hA hp hq
          go_wp2_with fail
          go_quiet (fail)
          go_wp2_with fail
          go_ret
          exact ⟨ret_int (by rw [HE.out]), ⟨hb.os, hb.tape, hb.output, hb.size, hb.block⟩⟩
      · have HE := Lib.hid (alike_end hA.out (show i - far ≤ i by omega) (.inl (by omega)))
        obtain ⟨p, hp⟩ : ∃ p, p = i + k := ⟨_, rfl⟩
        have e1 : (i : Int) + (k : Int) = (p : Int) := by omega
        have w1 : IntKind.i64.wrap (p : Int) = (p : Int) := IntWalk.i64_in _ (by omega)
        have p1 : (p : Int) < (s.size : Int) := by omega
        have k1 : decide ((k : Int) < 131) = false := by rw [decide_eq_false_iff_not]; omega
        clear hA hp d1
        go_wp2_with fail
        go_quiet (fail)
        go_wp2_with fail
        go_ret
        exact ⟨ret_int (by rw [HE.out]), ⟨hb.os, hb.tape, hb.output, hb.size, hb.block⟩⟩
    · have hle := hA.out.2.1
      rw [toL_len] at hle
      have HE := Lib.hid (alike_end hA.out (show i - far ≤ i by omega) (.inr (.inl (by omega))))
      have d1 : decide ((i : Int) + (k : Int) < (s.size : Int)) = false := by rw [decide_eq_false_iff_not]; omega
      clear hA
      go_wp2_with fail
      go_quiet (fail)
      go_wp2_with fail
      go_ret
      exact ⟨ret_int (by rw [HE.out]), ⟨hb.os, hb.tape, hb.output, hb.size, hb.block⟩⟩
/-- the best so far -/
def BstIs (l : List UInt8) (i k : Nat) (n far : Value) : Prop := n = .int .i64 ((Lz.bst l i k).1 : Nat) ∧ far = .int .i64 ((Lz.bst l i k).2 : Nat)
theorem ret_two {a b c d : Int} (h : a = b) (h' : c = d) : Ending.returned (.tuple #[.int .i64 a, .int .i64 c]) = .returned (.tuple #[.int .i64 b, .int .i64 d]) := by rw [h, h']
set_option maxRecDepth 100000 in
set_option maxHeartbeats 1000000 in
theorem rbest_any (s : ByteArray) (i : Nat) (w : World) (hs : s.size ≤ 1000000) (hi : i ≤ s.size) :
    Calls Try.prog 16 #[.string s, .int .i64 i] w fun e w' => e = .returned (.tuple #[.int .i64 ((Lz.best (toL s) i).1 : Nat), .int .i64 ((Lz.best (toL s) i).2 : Nat)]) ∧ Below w.heap.size w w' := by
  go_enter Try.func16, Try.ntmps16
  go_wp2_with fail
  go_loopw [6, 7, 8] (fun n far k wr => ∃ m a b : Nat, 1 ≤ m ∧ m ≤ min i 65535 + 1 ∧ k = .int .i64 m ∧ n = .int .i64 a ∧ far = .int .i64 b ∧ Hid (Lz.bst (toL s) i (m - 1) = (a, b)) ∧ Below w.heap.size w wr) (fun _ _ k _ => 65536 - (intOf k).toNat)
  case atStart => exact ⟨1, 0, 0, by omega, by omega, rfl, rfl, rfl, rfl, Below.refl _ _⟩
  case round =>
    obtain ⟨m, a, b, h1, h2, rfl, rfl, rfl, hB, hb⟩ := hrel
    by_cases hm : m ≤ min i 65535
    · have d1 : (m : Int) ≤ (i : Int) := by omega
      have d2 : (m : Int) ≤ 65535 := by omega
      have hstep : Lz.bst (toL s) i m = if a < Lz.sm (toL s) i (i - m) then (Lz.sm (toL s) i (i - m), m) else (a, b) := by
        conv => lhs; rw [show m = m - 1 + 1 from by omega]; unfold Lz.bst
        rw [hB.out, show m - 1 + 1 = m from by omega]
      have hc := rsame_any s i m wr hs hi h1 (by omega)
      have hsm := (Lz.sm_le (toL s) i (i - m)).1
      have hle : a ≤ 131 := by have := (Lz.bst_le (toL s) i (m - 1)).1; rw [hB.out] at this; exact this
      clear hB
      generalize Lz.sm (toL s) i (i - m) = x at *
      by_cases hx : a < x
      · rw [if_pos hx] at hstep
        have HS := Lib.hid hstep
        clear hstep
        go_wp2_with fail
        refine hc.mono ?_
        rintro e w1 ⟨rfl, hb1⟩
        go_wp2_with fail
        go_roundw
        case rel => exact ⟨m + 1, x, m, by omega, by omega, by go_num, rfl, rfl, HS, hb.trans (hb1.mono hb.size)⟩
        case measure => simp [intOf]; omega
      · rw [if_neg hx] at hstep
        have HS := Lib.hid hstep
        clear hstep
        go_wp2_with fail
        refine hc.mono ?_
        rintro e w1 ⟨rfl, hb1⟩
        go_wp2_with fail
        go_roundw
        case rel => exact ⟨m + 1, a, b, by omega, by omega, by go_num, rfl, rfl, HS, hb.trans (hb1.mono hb.size)⟩
        case measure => simp [intOf]; omega
    · have hE : Lz.best (toL s) i = (a, b) := by
        have := hB.out
        rw [show m - 1 = min i 65535 from by omega] at this
        exact this
      have HE := Lib.hid hE
      clear hE hB
      by_cases d1 : (m : Int) ≤ (i : Int)
      · have d2 : ¬ (m : Int) ≤ 65535 := by omega
        go_wp2_with fail
        go_ret2
        exact ⟨ret_two (by rw [HE.out]) (by rw [HE.out]), hb⟩
      · go_wp2_with fail
        go_ret2
        exact ⟨ret_two (by rw [HE.out]) (by rw [HE.out]), hb⟩
/-! texts put together -/
theorem conv_one (W : World) (g : Nat) (x : Int) (h : W.cell? ⟨g, 0, none⟩ = some (.int .u8 x)) : (convert 32 9 (.slice (some ⟨g, 0, none⟩) 1 1)).run Try.prog W = .ok (.string ⟨#[UInt8.ofNat x.toNat]⟩) W := by
  refine run_convert_bytes_arg _ 32 5 Try.underlying32 Try.underlying5 g 0 1 1 [x] rfl (fun i hi => ?_) 9 Try.underlying9
  obtain rfl : i = 0 := by omega
  exact h
theorem own1 (w : World) (v : Value) (t : TypeId) : (w.alloc (.cells #[v] t)).cell? ⟨w.heap.size, 0, none⟩ = some v := by
  have h : (w.alloc (.cells #[v] t)).heap[w.heap.size]? = some (.cells #[v] t (0, 0)) := by
    show (w.heap.push _)[w.heap.size]? = _
    simp
  unfold World.cell?
  rw [h]
  rfl
theorem conv_new (W : World) (x : Int) : (convert 32 9 (.slice (some ⟨W.heap.size, 0, none⟩) 1 1)).run Try.prog (W.alloc (.cells #[.int .u8 x] 5)) = .ok (.string ⟨#[UInt8.ofNat x.toNat]⟩) (W.alloc (.cells #[.int .u8 x] 5)) :=
  conv_one _ _ x (own1 _ _ _)
theorem conv_new_drew (W : World) (x : Int) : (convert 32 9 (.slice (some ⟨W.heap.size, 0, none⟩) 1 1)).run Try.prog (W.alloc (.cells #[.int .u8 x] 5)).drew = .ok (.string ⟨#[UInt8.ofNat x.toNat]⟩) (W.alloc (.cells #[.int .u8 x] 5)).drew :=
  conv_one _ _ x (own1 _ _ _)
theorem rstr {a b : ByteArray} (h : a = b) : Ending.returned (.string a) = .returned (.string b) := by rw [h]
theorem toL_append (a b : ByteArray) : toL (a ++ b) = toL a ++ toL b := by unfold toL; simp
theorem toL_mk (l : List UInt8) : toL ⟨l.toArray⟩ = l := by unfold toL; simp
theorem toL_one (c : UInt8) : toL ⟨#[c]⟩ = [c] := rfl
theorem alloc_size (w : World) (o : Obj) : (w.alloc o).heap.size = w.heap.size + 1 := Array.size_push ..
set_option maxRecDepth 100000 in
set_option maxHeartbeats 1000000 in
theorem rrun_any (s : ByteArray) (w : World) (hs : s.size ≤ 1000000) :
    Calls Try.prog 17 #[.string s] w fun e w' => e = .returned (.string (ofL (Lz.run (toL s)))) ∧ Below w.heap.size w w' := by
  go_enter Try.func17, Try.ntmps17
  go_wp2_with fail
  go_loopw [0, 3] (fun b o wr => ∃ (y z : ByteArray), b = .string y ∧ o = .string z ∧ y.size ≤ s.size ∧ z.size ≤ 2 * s.size ∧ Hid (toL z ++ Lz.run (toL y) = Lz.run (toL s)) ∧ Below w.heap.size w wr) (fun b _ _ => (match b with | .string y => y.size | _ => 0))
  case atStart => exact ⟨s, ByteArray.empty, rfl, rfl, Nat.le_refl _, by simp, by unfold Hid; rfl, Below.refl _ _⟩
  case round =>
    obtain ⟨y, z, rfl, rfl, hy, hz, hH, hb⟩ := hrel
    have cv := conv_new
    have cw := conv_new_drew
    by_cases h1 : 128 < y.size
    · have e := hH.out
      rw [Lz.run_long _ (by rw [toL_len]; exact h1)] at e
      have el := congrArg List.length hH.out
      simp only [List.length_append, Lz.run_length _ _ (Nat.le_refl _), toL_len] at el
      have bz : z.size + y.size ≤ 2 * s.size := by omega
      have bz2 : z.size + 1 + 128 ≤ 2 * s.size := by omega
      have HN : Hid (toL (z ++ ⟨#[127]⟩ ++ y.extract 0 128) ++ Lz.run (toL (y.extract 128 y.size)) = Lz.run (toL s)) := Lib.hid (by
        rw [← e, toL_append, toL_append, toL_extract _ _ _ (by omega), toL_extract _ _ _ (Nat.le_refl _), toL_one, ← toL_len y, List.take_length, List.drop_zero]
        simp)
      have Z1 : Hid ((y.extract 128 y.size).size = y.size - 128) := Lib.hid (by rw [ByteArray.size_extract]; omega)
      have Z2 : Hid ((z ++ ⟨#[127]⟩ ++ y.extract 0 128).size ≤ 2 * s.size) := Lib.hid (by rw [ByteArray.size_append, ByteArray.size_append, ByteArray.size_extract]; show z.size + 1 + _ ≤ _; omega)
      have i1 : (128 : Int) ≤ (y.size : Int) := by omega
      clear e el hH
      go_wp2_with fail
      go_region
      go_wp2_with fail
      go_roundw
      case rel => exact ⟨_, _, rfl, rfl, by have := Z1.out; omega, Z2.out, HN, (hb.alloc hb.size _).drew⟩
      case measure => have := Z1.out; simp; omega
    · have el := congrArg List.length hH.out
      simp only [List.length_append, Lz.run_length _ _ (Nat.le_refl _), toL_len] at el
      by_cases h0 : y.size = 0
      · have t0 : ((y.size : Int) == 0) = true := by rw [h0]; rfl
        have HE : Hid (z = ofL (Lz.run (toL s))) := Lib.hid (toL_inj (by
          rw [toL_ofL, ← hH.out, show toL y = [] from toL_nil.2 h0, Lz.run_nil, List.append_nil]))
        clear hH el h0
        go_wp2_with fail
        go_ret
        exact ⟨rstr HE.out, hb⟩
      · have t0 : ((y.size : Int) == 0) = false := by rw [beq_eq_false_iff_ne]; omega
        have t1 : IntKind.u8.wrap ((y.size : Int) - 1) = (y.size : Int) - 1 := by rw [IntKind.wrap_u8']; omega
        have bz : z.size + 1 + y.size ≤ 2 * s.size := by omega
        have HE : Hid (z ++ ⟨#[UInt8.ofNat (y.size - 1)]⟩ ++ y = ofL (Lz.run (toL s))) := Lib.hid (toL_inj (by
          rw [toL_ofL, ← hH.out, toL_append, toL_append, toL_one, Lz.run_short _ (fun e => h0 (toL_nil.1 e)) (by rw [toL_len]; omega), toL_len]
          simp))
        clear hH el h0
        go_wp2_with fail
        go_ret
        exact ⟨rstr HE.out, hb.alloc hb.size _⟩
end Go.Proofs.Ytoggibooinhomaa
