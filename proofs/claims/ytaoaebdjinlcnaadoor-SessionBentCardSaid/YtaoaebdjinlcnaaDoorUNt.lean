/-
  THE WALK of the reading of a row: the texts, or the error, of the plain mathematics.
-/
import Derived.Test.YtaoaebdjinlcnaaDoorUNr
set_option linter.unusedVariables false
set_option linter.unusedSimpArgs false
set_option maxRecDepth 100000
namespace Go.Proofs.YtaoaebdjinlcnaaDoor.Un
open Go.RowKit
namespace Nm
/-- a text's bytes -/
def toL (s : ByteArray) : List UInt8 := s.data.toList
theorem toL_length (s : ByteArray) : (toL s).length = s.size := by simp [toL]
theorem toL_inj {a b : ByteArray} (h : toL a = toL b) : a = b := by
  cases a; cases b
  simp [toL] at h
  rw [h]
theorem toL_extract (s : ByteArray) (a b : Nat) : toL (s.extract a b) = ((toL s).drop a).take (b - a) := by
  simp [toL, ByteArray.data_extract, List.extract_eq_take_drop]
def strLen : Value → Nat | .string s => s.size | _ => 0
def TxPost (s : ByteArray) (w : World) (e : Ending) (w' : World) : Prop :=
  ∃ A c l, e = .returned (.tuple #[.slice A l.length c, .int .i64 ((Nu.texts (toL s)).2 : Nat)]) ∧ Ts w' A l.length l ∧ l.map toL = (Nu.texts (toL s)).1 ∧ Below w.heap.size w w'
def TxRel (s : ByteArray) (r : ByteArray) (acc : List ByteArray) : Prop := ∃ f, r.size < f ∧ Nu.texts (toL s) = Nu.txA f (acc.map toL) (toL r)
set_option maxRecDepth 100000 in
set_option maxHeartbeats 1000000 in
theorem texts_any (s : ByteArray) (w : World) (hs : s.size ≤ 4000000000) : Calls Tryd.prog 38 #[.string s] w (TxPost s w) := by
  go_enter Tryd.func38, Tryd.ntmps38
  go_wp2_with fail
  go_loopw [0, 4] (fun b v wr => ∃ r A c acc, b = .string r ∧ v = .slice A acc.length c ∧ RS wr w.heap.size A acc.length c acc ∧ TxRel s r acc ∧ r.size + acc.length ≤ s.size ∧ Below w.heap.size w wr) (fun b _ _ => strLen b)
  case atStart => exact ⟨s, none, 0, [], rfl, rfl, RS.nil _ _, ⟨_, Nat.lt_succ_self _, by simp only [Nu.texts, toL_length]; rfl⟩, by simp, Below.refl _ _⟩
  case round =>
    obtain ⟨r, A, c, acc, rfl, rfl, hr, hx, hsz, hw⟩ := hrel
    obtain ⟨f, hf, hx⟩ := hx
    by_cases hl : 0 < r.size
    · have hne : toL r ≠ [] := by intro h; have h1 := congrArg List.length h; rw [toL_length, List.length_nil] at h1; omega
      by_cases he : (Nu.glen (toL r)).2.2 = 0
      · obtain ⟨m, t, e1, e2, e3, e4⟩ := Nu.glen_ok he
        have hG : ∀ e, GlIs (toL r) e → e = .returned (.tuple #[.int .i64 (m : Nat), .int .i64 ((Nu.lenB m).length : Nat), .int .i64 0]) := by
          intro e h
          unfold GlIs at h
          rw [e2, e3, he] at h
          exact h
        have hp := Nu.lenB_pos m
        have hsum : (Nu.lenB m).length + t.length = r.size := by rw [← toL_length r, e1]; simp
        have hd : toL (r.extract (Nu.lenB m).length r.size) = t := by
          rw [toL_extract, e1, Nu.drop_lenB, List.take_of_length_le (by omega)]
        generalize hS : (Nu.lenB m).length = S at *
        have HG := Lib.hid hG
        clear hG
        by_cases h2 : t.length < m
        · have hq := Nu.txA_short (f := f) (acc := acc.map toL) (by omega) hne he (by rw [e3, e2, e1, ← hS, Nu.drop_lenB]; exact h2)
          have HQ := Lib.hid (hx.trans hq)
          have b1 : r.size - S < m := by omega
          have b2 : S ≤ r.size := by omega
          clear hx hq hf hS hd e1 e2 e3 he hsum
          go_wp2_with fail
          refine (glen_any r _ (by omega)).mono ?_
          rintro e w1 ⟨h, rfl⟩
          rw [HG.out e h]
          clear h
          go_wp2_with fail
          go_ret2
          exact ⟨none, 0, [], by rw [HQ.out]; rfl, ⟨rfl, fun h => absurd h (by simp)⟩, by rw [HQ.out]; rfl, hw⟩
        · obtain ⟨f, rfl⟩ : ∃ k, f = k + 1 := ⟨f - 1, by omega⟩
          have hq := Nu.txA_next (f := f) (acc := acc.map toL) hne he (by rw [e3, e2, e1, ← hS, Nu.drop_lenB]; exact h2)
          have ea : List.map toL (acc ++ [(r.extract S r.size).extract 0 m]) = acc.map toL ++ [((toL r).drop (Nu.glen (toL r)).2.1).take (Nu.glen (toL r)).1] := by
            rw [List.map_append, List.map_cons, List.map_nil, toL_extract, hd, e3, e2, e1, ← hS, Nu.drop_lenB]
            simp
          have eb : toL ((r.extract S r.size).extract m (r.size - S)) = ((toL r).drop (Nu.glen (toL r)).2.1).drop (Nu.glen (toL r)).1 := by
            rw [toL_extract, hd, e3, e2, e1, ← hS, Nu.drop_lenB, List.take_of_length_le (by simp; omega)]
          rw [← ea, ← eb] at hq
          have HQ := Lib.hid (hx.trans hq)
          have sz : ((r.extract S r.size).extract m (r.size - S)).size = r.size - S - m := by
            rw [← toL_length, toL_extract, hd]; simp; omega
          have SZ := Lib.hid sz
          have b1 : m ≤ r.size - S := by omega
          have b2 : S ≤ r.size := by omega
          clear hx hq hS hd e1 e2 e3 he hsum ea eb sz h2
          go_wp2_with fail
          refine (glen_any r _ (by omega)).mono ?_
          rintro e w1 ⟨h, rfl⟩
          rw [HG.out e h]
          clear h
          go_wp2_with (at_builtin; go_must (refine app_text rfl (.tmp 27) (.tmp 31) rfl w.heap.size A acc.length c acc rfl (hr.alloc _) wr.heap.size ((r.extract S r.size).extract 0 m) 1 rfl (own1 _ _ _) (by omega) ?c3 (wr.heap.size + 1) ?c4 ?_); go_must (case c3 => (have := hw.size; simp; omega)); go_must (case c4 => simp); intro g cx w2 hp2 hg2 hor2 hbw2)
          go_roundw
          case rel => exact ⟨_, some ⟨g, 0, none⟩, cx, acc ++ [(r.extract S r.size).extract 0 m], rfl, by simp, by simpa using hp2, ⟨f, by rw [SZ.out]; omega, HQ.out⟩, by rw [SZ.out]; simp; omega, (hw.alloc hw.size _).trans hbw2⟩
          case measure => simp [strLen, SZ.out]; omega
      · have hq := Nu.txA_err (f := f) (acc := acc.map toL) (by omega) hne he
        have HQ := Lib.hid (hx.trans hq)
        have hG : ∀ e, GlIs (toL r) e → ∃ a b : Nat, e = .returned (.tuple #[.int .i64 (a : Nat), .int .i64 (b : Nat), .int .i64 ((Nu.glen (toL r)).2.2 : Nat)]) := fun e h => ⟨_, _, h⟩
        generalize (Nu.glen (toL r)).2.2 = E at *
        have t1 : ((E : Int) != 0) = true := by rw [bne_iff_ne]; omega
        have HG := Lib.hid hG
        clear hx hq hf he hG
        go_wp2_with fail
        refine (glen_any r _ (by omega)).mono ?_
        rintro e w1 ⟨h, rfl⟩
        obtain ⟨a, b, h⟩ := HG.out e h
        rw [h]
        clear h
        go_wp2_with fail
        go_ret2
        exact ⟨none, 0, [], by rw [HQ.out]; rfl, ⟨rfl, fun h => absurd h (by simp)⟩, by rw [HQ.out]; rfl, hw⟩
    · have hr0 : toL r = [] := List.eq_nil_of_length_eq_zero (by rw [toL_length]; omega)
      rw [hr0, Nu.txA_nil (by omega)] at hx
      have HX := Lib.hid hx
      clear hx hr0 hf
      go_wp2_with fail
      go_ret2
      exact ⟨A, c, acc, by rw [HX.out]; rfl, hr.ts, by rw [HX.out], hw⟩
end Nm
end Go.Proofs.YtaoaebdjinlcnaaDoor.Un
