/-
  THE WALK of the reading of a row, as the document's answer has it.
-/
import Derived.Test.YtaoaebdjinlcnaaDoorUNl
set_option linter.unusedVariables false
set_option linter.unusedSimpArgs false
set_option maxRecDepth 100000
namespace Go.Proofs.YtaoaebdjinlcnaaDoor.Un
open Go.RowKit
namespace Nm
theorem str_yes {a b : ByteArray} (h : a = b) : (a.toList == b.toList) = true := by rw [h]; simp
theorem str_no {a b : ByteArray} (h : a ≠ b) : (a.toList == b.toList) = false := by
  rw [beq_eq_false_iff_ne]
  intro e
  rw [Go.ByteArray.toList_eq, Go.ByteArray.toList_eq] at e
  exact h (toL_inj e)
theorem eq_of_take {l l' : List ByteArray} (h : l.length = l'.length) (k : Nat) (hk : k = l.length) (e : l.take k = l'.take k) : l = l' := by
  rwa [List.take_of_length_le (by omega), List.take_of_length_le (by omega)] at e
/-- how many bytes and texts a row has -/
def bulk (l : List ByteArray) : Nat := (l.map fun s => s.size + 1).sum
theorem bulk_take (l : List ByteArray) (k : Nat) (h : k < l.length) : bulk (l.take (k + 1)) = bulk (l.take k) + ((nth l k).size + 1) := by
  unfold bulk
  rw [List.take_succ_eq_append_getElem h, List.map_append, List.sum_append, nth_eq h]
  simp
/-- the answer of 'long' -/
def LongIs (l : List ByteArray) (e : Ending) : Prop := e = .returned (.bool true) ∨ e = .returned (.bool false) ∧ bulk l ≤ 5000
end Nm
end Go.Proofs.YtaoaebdjinlcnaaDoor.Un
set_option linter.unusedVariables false
set_option linter.unusedSimpArgs false
set_option maxRecDepth 100000
namespace Go.Proofs.YtaoaebdjinlcnaaDoor.Un
open Go.RowKit
namespace Nm
def TrRel (s : ByteArray) (at0 : Nat) (acc : List ByteArray) : Prop := ∃ f, s.size - at0 < f ∧ Nu.texts (toL s) = Nu.txA f (acc.map toL) ((toL s).drop at0)
theorem drop_at (s : ByteArray) (k : Nat) (h : k < s.size) : (toL s).drop k = s[k] :: (toL s).drop (k + 1) := drop_bytes s k h
set_option maxRecDepth 100000 in
set_option maxHeartbeats 2000000 in
theorem rtexts_any (s : ByteArray) (w : World) (hs : s.size ≤ 4000000000) : Calls Tryd.prog 22 #[.string s] w (TxPost s w) := by
  go_enter Tryd.func22, Tryd.ntmps22
  go_wp2_with fail
  go_loopw [4, 5] (fun v a wr => ∃ at0 A c acc, a = .int .i64 (at0 : Nat) ∧ v = .slice A acc.length c ∧ RS wr w.heap.size A acc.length c acc ∧ TrRel s at0 acc ∧ at0 ≤ s.size ∧ acc.length ≤ at0 ∧ Below w.heap.size w wr) (fun _ a _ => s.size - (intOf a).toNat)
  case atStart => exact ⟨0, some ⟨w.heap.size, 0, none⟩, 0, [], rfl, rfl, RS.empty (Own.new _ _ _) (Nat.le_refl _), ⟨_, Nat.lt_succ_self _, by simp only [Nu.texts, toL_length]; rfl⟩, Nat.zero_le _, by simp, (Below.refl _ _).alloc (Nat.le_refl _) _⟩
  case round =>
    obtain ⟨at0, A, c, acc, rfl, rfl, hr, hx, hat, hac, hw⟩ := hrel
    obtain ⟨f, hf, hx⟩ := hx
    by_cases hl : at0 < s.size
    · have hne : (toL s).drop at0 ≠ [] := by intro h; have h1 := congrArg List.length h; rw [List.length_drop, toL_length, List.length_nil] at h1; omega
      have HX := Lib.hid hx
      clear hx
      go_wp2_with fail
      obtain ⟨wo, rfl⟩ : ∃ wo : World, wo = wr := ⟨_, rfl⟩
      go_loopw [5, 6, 7, 8] (fun a n u k wr => ∃ j N : Nat, j ≤ 3 ∧ at0 + j ≤ s.size ∧ a = .int .i64 ((at0 + j : Nat) : Int) ∧ n = .int .i64 (N : Nat) ∧ u = .int .i64 ((128 ^ j : Nat) : Int) ∧ k = .int .i64 (j : Nat) ∧ N < 128 ^ j ∧
        Nu.glen ((toL s).drop at0) = Nu.gl (4 - j) j N ((toL s).drop (at0 + j)) ∧ wr = wo) (fun _ _ _ k _ => 4 - (intOf k).toNat)
      case atStart => exact ⟨0, 0, by omega, by omega, rfl, rfl, rfl, rfl, by simp, rfl, rfl⟩
      case round =>
        obtain ⟨j, N, hj, hjs, rfl, rfl, rfl, rfl, hN, hg, rfl⟩ := hrel
        obtain ⟨F, hF⟩ : ∃ F, 4 - j = F + 1 := ⟨3 - j, by omega⟩
        rw [hF] at hg
        by_cases hend : at0 + j = s.size
        · have hd : (toL s).drop (at0 + j) = [] := List.drop_of_length_le (by rw [toL_length]; omega)
          rw [hd] at hg
          have hg2 : Nu.glen ((toL s).drop at0) = (0, 0, 4) := hg
          have hq := Nu.txA_err (f := f) (acc := acc.map toL) (by omega) hne (by rw [hg2]; simp)
          rw [hg2] at hq
          have HQ := Lib.hid (HX.out.trans hq)
          have t0 : (((at0 + j : Nat) : Int) == (s.size : Int)) = true := by rw [beq_iff_eq]; omega
          clear hd hg hg2 hq hend hF hN
          go_wp2_with fail
          go_ret2
          exact ⟨none, 0, [], by rw [HQ.out]; rfl, ⟨rfl, fun h => absurd h (by simp)⟩, by rw [HQ.out]; rfl, hw⟩
        · have hlt : at0 + j < s.size := by omega
          have t0 : (((at0 + j : Nat) : Int) == (s.size : Int)) = false := by rw [beq_eq_false_iff_ne]; omega
          have hd := drop_at s (at0 + j) hlt
          rw [hd] at hg
          have b8 : s[at0 + j].toNat < 256 := UInt8.toNat_lt _
          have hU1 : 128 ^ j ≤ 128 ^ 3 := Nat.pow_le_pow_right (by omega) hj
          have hUs : 128 ^ (j + 1) = 128 ^ j * 128 := Nat.pow_succ _ _
          have hU2 : 128 ^ j ≤ 2097152 := hU1
          have hN' : N + s[at0 + j].toNat % 128 * 128 ^ j < 128 ^ (j + 1) := by
            rw [hUs]
            have : s[at0 + j].toNat % 128 * 128 ^ j ≤ 127 * 128 ^ j := Nat.mul_le_mul_right _ (by omega)
            omega
          have hm : s[at0 + j].toNat % 128 * 128 ^ j ≤ 127 * 2097152 := Nat.mul_le_mul (by omega) hU2
          obtain ⟨n', en⟩ : ∃ n', n' = N + s[at0 + j].toNat % 128 * 128 ^ j := ⟨_, rfl⟩
          have e1 : (N : Int) + (s[at0 + j].toNat : Int) % 128 * ((128 ^ j : Nat) : Int) = (n' : Int) := by
            rw [en, Int.natCast_add, Int.natCast_mul, Int.natCast_emod]; rfl
          have hmi : ((s[at0 + j].toNat : Int) % 128 * ((128 ^ j : Nat) : Int)) = ((s[at0 + j].toNat % 128 * 128 ^ j : Nat) : Int) := by
            rw [Int.natCast_mul, Int.natCast_emod]; rfl
          have m1 : 0 ≤ ((s[at0 + j].toNat : Int) % 128 * ((128 ^ j : Nat) : Int)) := by rw [hmi]; omega
          have m2 : ((s[at0 + j].toNat : Int) % 128 * ((128 ^ j : Nat) : Int)) ≤ 266338304 := by rw [hmi]; omega
          rw [← en] at hN'
          have HUs := Lib.hid hUs
          have HN' := Lib.hid hN'
          have HN := Lib.hid hN
          have hNs : N < 2097152 := by omega
          clear hUs hN' hN hU1 hm hmi
          by_cases h1 : 128 ≤ s[at0 + j].toNat
          · rw [Nu.gl_more h1, ← en] at hg
            by_cases h3 : j = 3
            · have hF0 : F = 0 := by omega
              subst hF0
              have hg2 : Nu.glen ((toL s).drop at0) = (0, 0, 3) := hg
              have hq := Nu.txA_err (f := f) (acc := acc.map toL) (by omega) hne (by rw [hg2]; simp)
              rw [hg2] at hq
              have HQ := Lib.hid (HX.out.trans hq)
              have t3 : ((j : Int) == 3) = true := by rw [h3]; rfl
              have En := Lib.hid en
              clear hd hg hg2 hq hF h3 en
              generalize hU : 128 ^ j = U at *
              clear hU
              go_wp2_with fail
              go_ret2
              exact ⟨none, 0, [], by rw [HQ.out]; rfl, ⟨rfl, fun h => absurd h (by simp)⟩, by rw [HQ.out]; rfl, hw⟩
            · have t3 : ((j : Int) == 3) = false := by rw [beq_eq_false_iff_ne]; omega
              have eF : 4 - (j + 1) = F := by omega
              have hj3 : j < 3 := by omega
              rw [← eF] at hg
              have HG := Lib.hid hg
              have En := Lib.hid en
              clear hd hg hF h3 en eF
              generalize hU : 128 ^ j = U at *
              clear hU
              go_wp2_with fail
              go_roundw
              case rel => exact ⟨j + 1, n', by omega, by omega, by go_num, rfl, by rw [HUs.out]; go_num, by go_num, HN'.out, HG.out, trivial⟩
              case measure => simp [intOf]; omega
          · by_cases h2 : s[at0 + j].toNat = 0 ∧ 0 < j
            · rw [Nu.gl_form h2.1 h2.2] at hg
              have hq := Nu.txA_err (f := f) (acc := acc.map toL) (by omega) hne (by rw [hg]; simp)
              rw [hg] at hq
              have HQ := Lib.hid (HX.out.trans hq)
              have En := Lib.hid en
              obtain ⟨h3, h4⟩ := h2
              have t3 : ((s[at0 + j].toNat : Int) == 0) = true := by rw [h3]; rfl
              have h4' : (0 : Int) < (j : Int) := by omega
              clear hd hg hq hF en h3 e1 m1 m2
              generalize hU : 128 ^ j = U at *
              clear hU
              go_wp2_with fail
              go_ret2
              exact ⟨none, 0, [], by rw [HQ.out]; rfl, ⟨rfl, fun h => absurd h (by simp)⟩, by rw [HQ.out]; rfl, hw⟩
            · rw [Nu.gl_last (by omega) h2, ← en] at hg
              obtain ⟨m, t, g1, g2, g3, _⟩ := Nu.glen_ok (b := (toL s).drop at0) (by rw [hg])
              rw [hg] at g2 g3
              have g2' : n' = m := g2
              have g3' : j + 1 = (Nu.lenB m).length := g3
              have hdt : (toL s).drop (at0 + (j + 1)) = t := by
                rw [← List.drop_drop, g1, g3', Nu.drop_lenB]
              have htl : t.length = s.size - (at0 + (j + 1)) := by rw [← hdt, List.length_drop, toL_length]
              have hgd : ((toL s).drop at0).drop (j + 1) = (toL s).drop (at0 + (j + 1)) := List.drop_drop
              have ht : ((s[at0 + j].toNat : Int) == 0) = false ∨ ((s[at0 + j].toNat : Int) == 0) = true ∧ ¬ (0 : Int) < (j : Int) := by
                by_cases h0 : s[at0 + j].toNat = 0
                · exact .inr ⟨by rw [h0]; rfl, fun h => h2 ⟨h0, by omega⟩⟩
                · exact .inl (by rw [beq_eq_false_iff_ne]; omega)
              have hsN : n' < 268435456 := by
                have h5 := HN'.out
                have h6 : 128 ^ (j + 1) ≤ 128 ^ 4 := Nat.pow_le_pow_right (by omega) (by omega)
                omega
              have En := Lib.hid en
              by_cases h5 : s.size - (at0 + (j + 1)) < n'
              · have hq := Nu.txA_short (f := f) (acc := acc.map toL) (by omega) hne (by rw [hg]) (by rw [hg]; show (((toL s).drop at0).drop (j + 1)).length < n'; rw [hgd, List.length_drop, toL_length]; exact h5)
                have HQ := Lib.hid (HX.out.trans hq)
                have h5' : (s.size : Int) - ((at0 : Int) + (j : Int) + 1) < (n' : Int) := by omega
                clear hd hg hq hF en g1 g2 g3 g2' g3' hdt htl hgd h2 h5
                generalize hU : 128 ^ j = U at *
                clear hU
                rcases ht with t3 | ⟨t3, t4⟩
                all_goals
                  go_wp2_with fail
                  go_ret2
                  exact ⟨none, 0, [], by rw [HQ.out]; rfl, ⟨rfl, fun h => absurd h (by simp)⟩, by rw [HQ.out]; rfl, hw⟩
              · obtain ⟨f, rfl⟩ : ∃ k, f = k + 1 := ⟨f - 1, by omega⟩
                have hq := Nu.txA_next (f := f) (acc := acc.map toL) hne (by rw [hg]) (by rw [hg]; show ¬ (((toL s).drop at0).drop (j + 1)).length < n'; rw [hgd, List.length_drop, toL_length]; exact h5)
                have ea : List.map toL (acc ++ [s.extract (at0 + j + 1) (at0 + j + 1 + n')]) = acc.map toL ++ [(((toL s).drop at0).drop (Nu.glen ((toL s).drop at0)).2.1).take (Nu.glen ((toL s).drop at0)).1] := by
                  rw [List.map_append, List.map_cons, List.map_nil, toL_extract, hg]
                  show _ = acc.map toL ++ [(((toL s).drop at0).drop (j + 1)).take n']
                  rw [hgd, show at0 + j + 1 + n' - (at0 + j + 1) = n' from by omega]
                  rfl
                have eb : (toL s).drop (at0 + j + 1 + n') = (((toL s).drop at0).drop (Nu.glen ((toL s).drop at0)).2.1).drop (Nu.glen ((toL s).drop at0)).1 := by
                  rw [hg]
                  show _ = (((toL s).drop at0).drop (j + 1)).drop n'
                  rw [hgd, List.drop_drop]
                  rfl
                rw [← ea, ← eb] at hq
                have HQ := Lib.hid (HX.out.trans hq)
                have h5' : ¬ (s.size : Int) - ((at0 : Int) + (j : Int) + 1) < (n' : Int) := by omega
                clear hd hg hq hF en g1 g2 g3 g2' g3' hdt htl hgd h2 ea eb
                generalize hU : 128 ^ j = U at *
                clear hU
                rcases ht with t3 | ⟨t3, t4⟩
                all_goals
                  go_wp2_with (at_builtin; go_must (refine app_text rfl (.tmp 51) (.tmp 58) rfl w.heap.size A acc.length c acc rfl (hr.alloc _) wr.heap.size (s.extract (at0 + j + 1) (at0 + j + 1 + n')) 1 rfl (own1 _ _ _) (by omega) ?c3 (wr.heap.size + 1) ?c4 ?_); go_must (case c3 => (have := hw.size; simp; omega)); go_must (case c4 => simp); intro g cx w2 hp2 hg2 hor2 hbw2)
                  go_roundw
                  case rel => exact ⟨at0 + j + 1 + n', some ⟨g, 0, none⟩, cx, acc ++ [s.extract (at0 + j + 1) (at0 + j + 1 + n')], by go_num, by simp, by simpa using hp2, ⟨f, by omega, HQ.out⟩, by omega, by simp; omega, (hw.alloc hw.size _).trans hbw2⟩
                  case measure => simp [intOf]; omega
    · have hr0 : (toL s).drop at0 = [] := List.drop_of_length_le (by rw [toL_length]; omega)
      rw [hr0, Nu.txA_nil (by omega)] at hx
      have HX := Lib.hid hx
      clear hx hr0 hf
      go_wp2_with fail
      go_ret2
      exact ⟨A, c, acc, by rw [HX.out]; rfl, hr.ts, by rw [HX.out], hw⟩
end Nm
end Go.Proofs.YtaoaebdjinlcnaaDoor.Un
