/-
  THE WALK of the document's Unpack.
-/
import Derived.Test.YtoggibooinhomaaLs
import Derived.Test.YtoggibooinhomaaLt
namespace Go.Proofs.Ytoggibooinhomaa
open Go.RowKit
set_option linter.unusedVariables false
set_option linter.unusedSimpArgs false
theorem toL_slice (s : ByteArray) (i j : Nat) (h : j ≤ s.size) : toL (s.extract i j) = ((toL s).drop i).take (j - i) := by rw [toL_extract _ _ _ h, List.drop_take]
theorem take_one (l : List UInt8) (q : Nat) (h : q < l.length) : (l.drop q).take 1 = [l.getD q 0] := by
  rw [List.drop_eq_getElem_cons h, List.take_succ_cons, List.take_zero, List.getD_eq_getElem?_getD, List.getElem?_eq_getElem h]
  rfl
set_option maxRecDepth 100000 in
set_option maxHeartbeats 2000000 in
theorem runpack_any (s : ByteArray) (most : Int) (w : World) (hs : s.size ≤ 1000000) (hm : most ≤ 1000000) (hm' : -9223372036854775808 ≤ most) :
    Calls Try.prog 13 #[.string s, .int .i64 most] w fun e w' => UnP (Lz.unpack most (toL s)) e ∧ Below w.heap.size w w' := by
  have HU : Hid ((most < 0 ∧ toL s = []) ∧ Lz.unpack most (toL s) = (6, []) ∨ ¬ (most < 0 ∧ toL s = []) ∧ Lz.unpack most (toL s) = Lz.una most (toL s) []) := Lib.hid (by
    unfold Lz.unpack
    by_cases h : most < 0 ∧ toL s = []
    · left; exact ⟨h, if_pos h⟩
    · right; exact ⟨h, if_neg h⟩)
  go_enter Try.func13, Try.ntmps13
  go_wp2_with fail
  go_loopw [0, 6] (fun b a wr => ∃ (y z : ByteArray), b = .string y ∧ a = .string z ∧ y.size ≤ s.size ∧ z.size ≤ 1000000 ∧ (y.size = s.size ∧ z.size = 0 ∨ y.size < s.size ∧ (z.size : Int) ≤ most) ∧ Below w.heap.size w wr ∧ Hid (Lz.una most (toL y) (toL z) = Lz.una most (toL s) [])) (fun b _ _ => (match b with | .string y => y.size | _ => 0))
  case atStart => exact ⟨s, ByteArray.empty, rfl, rfl, Nat.le_refl _, by simp, .inl ⟨rfl, rfl⟩, Below.refl _ _, rfl⟩
  case round =>
    obtain ⟨y, z, rfl, rfl, hy, hz, hyz, hb, hU⟩ := hrel
    by_cases h0 : 0 < y.size
    · have hstep := Lz.una_tk most y[0] ((toL y).drop 1) (toL z)
      have ey : y[0] :: (toL y).drop 1 = toL y := (toL_cons y h0).symm
      obtain ⟨r, hr⟩ : ∃ r, r = Lz.tk most y[0] ((toL y).drop 1) (toL z) := ⟨_, rfl⟩
      rw [ey, hU.out, ← hr] at hstep
      unfold Lz.tk at hr
      have dl : ((toL y).drop 1).length = y.size - 1 := by rw [List.length_drop, toL_len]
      have zl : (toL z).length = z.size := toL_len z
      have ns : ¬ (most < 0 ∧ toL s = []) := fun h => by have := toL_nil.1 h.2; omega
      have HV : Hid (Lz.unpack most (toL s) = Lz.una most (toL s) []) := Lib.hid (by
        rcases HU.out with h | h
        · exact absurd h.1 ns
        · exact h.2)
      have c8 : y[0].toNat < 256 := UInt8.toNat_lt _
      clear hU ey ns HU hyz
      by_cases hc : y[0].toNat < 128
      · by_cases h1 : y.size - 1 < y[0].toNat + 1
        · have HS : Hid (Lz.unpack most (toL s) = (4, [])) := Lib.hid (by
            rw [if_pos hc, dl, if_pos h1] at hr; rw [HV.out, hstep, hr]; exact if_neg (by decide))
          clear hstep hr dl zl
          go_wp2_with fail
          go_ret2
          exact ⟨UnP.mk HS.out, hb⟩
        · by_cases h2 : most < (z.size + (y[0].toNat + 1) : Nat)
          · have HS : Hid (Lz.unpack most (toL s) = (6, [])) := Lib.hid (by
              rw [if_pos hc, dl, if_neg h1, zl, if_pos h2] at hr; rw [HV.out, hstep, hr]; exact if_neg (by decide))
            clear hstep hr dl zl
            go_wp2_with fail
            go_ret2
            exact ⟨UnP.mk HS.out, hb⟩
          · have HS : Hid (Lz.una most (toL (y.extract (y[0].toNat + 2) y.size)) (toL (z ++ y.extract 1 (y[0].toNat + 2))) = Lz.una most (toL s) []) := Lib.hid (by
              rw [if_pos hc, dl, if_neg h1, zl, if_neg h2] at hr; rw [hstep, hr, if_pos rfl]
              rw [toL_append, toL_slice y 1 _ (by omega), toL_slice y _ y.size (Nat.le_refl _), show y[0].toNat + 2 - 1 = y[0].toNat + 1 from rfl, List.take_of_length_le (i := y.size - _) (by rw [List.length_drop, toL_len]; omega)])
            have Z1 : Hid ((y.extract (y[0].toNat + 2) y.size).size = y.size - (y[0].toNat + 2)) := Lib.hid (by rw [ByteArray.size_extract]; omega)
            have Z2 : Hid ((z ++ y.extract 1 (y[0].toNat + 2)).size = z.size + (y[0].toNat + 1)) := Lib.hid (by rw [ByteArray.size_append, ByteArray.size_extract]; omega)
            clear hstep hr dl zl
            go_wp2_with fail
            go_roundw
            case rel => exact ⟨_, _, rfl, rfl, by have := Z1.out; omega, by have := Z2.out; omega, .inr ⟨by have := Z1.out; omega, by have := Z2.out; omega⟩, hb, HS⟩
            case measure => have := Z1.out; simp; omega
      · by_cases h3 : y.size < 3
        · have HS : Hid (Lz.unpack most (toL s) = (4, [])) := Lib.hid (by
            rw [HV.out, hstep]
            rw [if_neg hc] at hr
            have hr2 : r = (4, 0, []) := by
              rw [hr]
              generalize (toL y).drop 1 = t at *
              match t, dl with
              | [], _ => rfl
              | [_], _ => rfl
              | _ :: _ :: _, dl => simp at dl; omega
            rw [hr2]
            exact if_neg (by decide))
          clear hstep hr dl zl
          go_wp2_with fail
          go_ret2
          exact ⟨UnP.mk HS.out, hb⟩
        · have b1 : y[1].toNat < 256 := UInt8.toNat_lt _
          have b2 : y[2].toNat < 256 := UInt8.toNat_lt _
          obtain ⟨far, hfar⟩ : ∃ far, far = y[1].toNat + 256 * y[2].toNat := ⟨_, rfl⟩
          obtain ⟨n, hn⟩ : ∃ n, n = y[0].toNat - 124 := ⟨_, rfl⟩
          have e1 : (y[1].toNat : Int) + (256 : Int) * (y[2].toNat : Int) = (far : Int) := by omega
          have e2 : IntKind.i64.wrap ((256 : Int) * (y[2].toNat : Int)) = (256 : Int) * (y[2].toNat : Int) := IntWalk.i64_in _ (by omega)
          have e3 : IntKind.i64.wrap (far : Int) = (far : Int) := IntWalk.i64_in _ (by omega)
          have e4 : (y[0].toNat : Int) - 124 = (n : Int) := by omega
          have i1 : (1 : Int) < (y.size : Int) := by omega
          have i2 : (2 : Int) < (y.size : Int) := by omega
          rw [if_neg hc, toL_cons3 y (by omega)] at hr
          dsimp only at hr
          rw [← hfar, ← hn, zl] at hr
          have f1 : far < 65536 := by omega
          have n1 : 4 ≤ n := by omega
          have n2 : n ≤ 131 := by omega
          have n3 : y[0].toNat = n + 124 := by omega
          clear hfar dl hn
          by_cases h4 : far = 0 ∨ z.size < far
          · rw [if_pos h4] at hr
            have HS : Hid (Lz.unpack most (toL s) = (3, [])) := Lib.hid (by rw [HV.out, hstep, hr]; exact if_neg (by decide))
            clear hstep hr zl
            by_cases h5 : far = 0
            · subst h5
              go_wp2_with fail
              go_quiet (fail)
              go_wp2_with fail
              go_ret2
              exact ⟨UnP.mk HS.out, ⟨hb.os, hb.tape, hb.output, hb.size, hb.block⟩⟩
            · have h6 : z.size < far := by omega
              have t0 : ((far : Int) == 0) = false := by rw [beq_eq_false_iff_ne]; omega
              clear h4
              go_wp2_with fail
              go_quiet (fail)
              go_wp2_with fail
              go_ret2
              exact ⟨UnP.mk HS.out, ⟨hb.os, hb.tape, hb.output, hb.size, hb.block⟩⟩
          · rw [if_neg h4] at hr
            have h5 : 1 ≤ far := by omega
            have h6 : far ≤ z.size := by omega
            have t0 : ((far : Int) == 0) = false := by rw [beq_eq_false_iff_ne]; omega
            clear h4
            by_cases h7 : most < (z.size + n : Nat)
            · rw [if_pos h7] at hr
              have HS : Hid (Lz.unpack most (toL s) = (6, [])) := Lib.hid (by rw [HV.out, hstep, hr]; exact if_neg (by decide))
              clear hstep hr zl
              go_wp2_with fail
              go_quiet (fail)
              go_wp2_with fail
              go_ret2
              exact ⟨UnP.mk HS.out, ⟨hb.os, hb.tape, hb.output, hb.size, hb.block⟩⟩
            · rw [if_neg h7] at hr
              rw [hr, if_pos rfl] at hstep
              have HS := Lib.hid hstep
              clear hstep hr zl
              have t1 : decide (z.size < far) = false := by simpa using h6
              have t2 : decide (most < (z.size : Int) + (n : Int)) = false := by rw [decide_eq_false_iff_not]; omega
              have t3 : decide ((n : Int) + (124 : Int) < 128) = false := by rw [decide_eq_false_iff_not]; omega
              have t4 : decide ((y.size : Int) < 3) = false := by rw [decide_eq_false_iff_not]; omega
              go_wp2_with fail
              go_quiet (fail)
              go_wp2_with fail
              have hb' : Below w.heap.size w (wr.drewN nq) := ⟨hb.os, hb.tape, hb.output, hb.size, hb.block⟩
              generalize wr.drewN nq = wo at hb' ⊢
              clear hb
              go_loopw [6, 9] (fun a b wr => ∃ (k : Nat) (x : ByteArray), k ≤ n ∧ b = .int .i64 k ∧ a = .string x ∧ x.size = z.size + k ∧ Below w.heap.size w wr ∧ Hid (Lz.cp far (n - k) (toL x) = Lz.cp far n (toL z))) (fun _ b _ => n - (intOf b).toNat)
              case atStart => exact ⟨0, z, Nat.zero_le _, rfl, rfl, rfl, hb', rfl⟩
              case round =>
                obtain ⟨k, x, hk, rfl, rfl, hx, hb2, hcp⟩ := hrel
                by_cases hlt : k < n
                · obtain ⟨q, hq⟩ : ∃ q, q = x.size - far := ⟨_, rfl⟩
                  have eq : (x.size : Int) - (far : Int) = (q : Int) := by omega
                  have q1 : q < x.size := by omega
                  have q3 : q < 2000000 := by omega
                  have HC : Hid (Lz.cp far (n - (k + 1)) (toL (x ++ x.extract q (q + 1))) = Lz.cp far n (toL z)) := by
                    refine Lib.hid ?_
                    rw [← hcp.out, show n - k = n - (k + 1) + 1 from by omega]
                    conv => rhs; unfold Lz.cp
                    rw [toL_append, toL_slice _ _ _ (by omega), toL_len, ← hq, show q + 1 - q = 1 from by omega]
                    rw [take_one _ _ (by rw [toL_len]; exact q1)]
                  have HX : Hid ((x ++ x.extract q (q + 1)).size = z.size + (k + 1)) := Lib.hid (by rw [ByteArray.size_append, ByteArray.size_extract]; omega)
                  have q4 : x.size ≤ 1000131 := by omega
                  clear hcp hq hx
                  go_wp2_with fail
                  go_roundw
                  case rel => exact ⟨k + 1, _, by omega, by go_num, rfl, HX.out, hb2, HC⟩
                  case measure => simp [intOf]; omega
                · obtain rfl : k = n := by omega
                  have HC : Hid (toL x = Lz.cp far k (toL z)) := by
                    have := hcp.out
                    rw [Nat.sub_self] at this
                    exact this
                  have HX : Hid ((x.size : Int) ≤ most) := Lib.hid (by omega)
                  have hx6 : x.size ≤ 1000000 := by omega
                  have HZ : Hid ((y.extract 3 y.size).size = y.size - 3) := Lib.hid (by rw [ByteArray.size_extract]; omega)
                  have HE : Hid (Lz.una most (toL (y.extract 3 y.size)) (toL x) = Lz.una most (toL s) []) := Lib.hid (by
                    rw [HS.out, HC.out, toL_extract _ _ _ (Nat.le_refl _), ← toL_len y, List.take_length])
                  clear hcp hx
                  go_wp2_with fail
                  go_roundw
                  case rel => exact ⟨_, _, rfl, rfl, by have := HZ.out; omega, hx6, .inr ⟨by have := HZ.out; omega, HX.out⟩, hb2, HE⟩
                  case measure => have := HZ.out; simp; omega
    · have HV : Hid ((most < 0 ∧ Lz.unpack most (toL s) = (6, [])) ∨ (¬ most < 0 ∧ Lz.unpack most (toL s) = (0, toL z))) := Lib.hid (by
        have e0 : toL y = [] := by rw [toL_nil]; omega
        have hu := hU.out
        rw [e0, Lz.una_nil] at hu
        rcases HU.out with h | h
        · exact .inl ⟨h.1.1, h.2⟩
        · refine .inr ⟨fun hneg => ?_, by rw [h.2, ← hu]⟩
          rcases hyz with q | q
          · exact h.1 ⟨hneg, toL_nil.2 (by omega)⟩
          · omega)
      clear hU HU hyz
      by_cases hneg : most < 0
      · have HS : Hid (Lz.unpack most (toL s) = (6, [])) := Lib.hid (by
          rcases HV.out with h | h
          · exact h.2
          · exact absurd hneg h.1)
        go_wp2_with fail
        go_ret2
        exact ⟨UnP.mk HS.out, hb⟩
      · have HS : Hid (Lz.unpack most (toL s) = (0, toL z)) := Lib.hid (by
          rcases HV.out with h | h
          · exact absurd h.1 hneg
          · exact h.2)
        go_wp2_with fail
        go_ret2
        refine ⟨?_, hb⟩
        have := UnP.mk HS.out
        rw [ofL_toL] at this
        exact this
end Go.Proofs.Ytoggibooinhomaa
