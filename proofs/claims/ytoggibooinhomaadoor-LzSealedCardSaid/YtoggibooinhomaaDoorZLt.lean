/-
  THE WALK of the code's token, and of Unpack.
-/
import Derived.Test.YtoggibooinhomaaDoorZLb
namespace Go.Proofs.YtoggibooinhomaaDoor.Z
namespace Lz
/-- the first token: why it can't be done, how many bytes it has, what has come out then -/
def tk (most : Int) (c : UInt8) (t out : List UInt8) : Nat × Nat × List UInt8 :=
  if c.toNat < 128 then
    if t.length < c.toNat + 1 then (4, 0, [])
    else if most < (out.length + (c.toNat + 1) : Nat) then (6, 0, [])
    else (0, c.toNat + 2, out ++ t.take (c.toNat + 1))
  else match t with
    | x :: y :: _ =>
      if x.toNat + 256 * y.toNat = 0 ∨ out.length < x.toNat + 256 * y.toNat then (3, 0, [])
      else if most < (out.length + (c.toNat - 124) : Nat) then (6, 0, [])
      else (0, 3, cp (x.toNat + 256 * y.toNat) (c.toNat - 124) out)
    | _ => (4, 0, [])
theorem una_tk (most : Int) (c : UInt8) (t out : List UInt8) : una most (c :: t) out = if (tk most c t out).1 = 0 then una most ((c :: t).drop (tk most c t out).2.1) (tk most c t out).2.2 else ((tk most c t out).1, []) := by
  by_cases hc : c.toNat < 128
  · rw [una_run most c t out hc]
    unfold tk
    rw [if_pos hc]
    split
    · rfl
    · split
      · rfl
      · simp only [if_true, List.drop_succ_cons]
  · match t with
    | [] => rw [una_short most c [] out hc (by simp)]; unfold tk; rw [if_neg hc]; rfl
    | [x] => rw [una_short most c [x] out hc (by simp)]; unfold tk; rw [if_neg hc]; rfl
    | x :: y :: t =>
      rw [una_copy most c x y t out hc]
      unfold tk
      rw [if_neg hc]
      dsimp only
      split
      · rfl
      · split
        · rfl
        · simp only [if_true, List.drop_succ_cons, List.drop_zero]
end Lz
open Go.RowKit
set_option linter.unusedVariables false
set_option linter.unusedSimpArgs false
def TokP (B : Nat) (W0 : World) (r : Nat × Nat × List UInt8) (e : Ending) (w' : World) : Prop :=
  ∃ v, e = .returned (.tuple #[v, .int .i64 (r.2.1 : Nat), .int .i64 (r.1 : Nat)]) ∧ Below B W0 w' ∧ B ≤ w'.heap.size ∧ (r.1 = 0 → Buf B v r.2.2 W0 w')
theorem TokP.no {B : Nat} {W0 w : World} {r : Nat × Nat × List UInt8} {k : Nat} {v : Value} {l : List UInt8} (hr : r = (k, 0, [])) (hk : k ≠ 0) (hb : Buf B v l W0 w) : TokP B W0 r (.returned (.tuple #[.slice none 0 0, .int .i64 0, .int .i64 (k : Nat)])) w := by
  subst hr
  exact ⟨.slice none 0 0, rfl, hb.2.1, hb.2.2, fun h => absurd h hk⟩
theorem TokP.yes {B : Nat} {W0 w : World} {r : Nat × Nat × List UInt8} {u : Nat} {v : Value} {l : List UInt8} (hr : r = (0, u, l)) (hb : Buf B v l W0 w) : TokP B W0 r (.returned (.tuple #[v, .int .i64 (u : Nat), .int .i64 0])) w := by
  subst hr
  exact ⟨v, rfl, hb.2.1, hb.2.2, fun _ => hb⟩
theorem toL_cons (s : ByteArray) (h : 0 < s.size) : toL s = s[0] :: (toL s).drop 1 := by
  have h' : 0 < (toL s).length := by rw [toL_len]; exact h
  have e := List.drop_eq_getElem_cons h'
  rw [List.drop_zero] at e
  exact e
theorem toL_cons3 (s : ByteArray) (h : 2 < s.size) : (toL s).drop 1 = s[1] :: s[2] :: (toL s).drop 3 := by
  have h' : 2 < (toL s).length := by rw [toL_len]; exact h
  have e1 := List.drop_eq_getElem_cons (show 1 < (toL s).length by omega)
  have e2 := List.drop_eq_getElem_cons h'
  rw [e1, show 1 + 1 = 2 from rfl, e2]
  rfl
theorem i64_or_nat (a b : Nat) (ha : a < 4611686018427387904) (hb : b < 4611686018427387904) : bits .or .i64 (a : Int) (b : Int) = ((a ||| b : Nat) : Int) := by
  have hx : a ||| b < 2 ^ 62 := Nat.or_lt_two_pow (by omega) (by omega)
  have h1 : (BitVec.ofInt 64 (a : Int)).toNat = a := by
    rw [BitVec.ofInt_natCast, BitVec.toNat_ofNat]; exact Nat.mod_eq_of_lt (by omega)
  have h2 : (BitVec.ofInt 64 (b : Int)).toNat = b := by
    rw [BitVec.ofInt_natCast, BitVec.toNat_ofNat]; exact Nat.mod_eq_of_lt (by omega)
  show IntKind.i64.wrap ((BitVec.ofInt 64 (a : Int) ||| BitVec.ofInt 64 (b : Int)).toNat : Int) = _
  rw [BitVec.toNat_or, h1, h2]
  exact IntWalk.i64_in _ (by omega)
set_option maxRecDepth 100000 in
set_option maxHeartbeats 1000000 in
theorem token_any (B : Nat) (v : Value) (l : List UInt8) (W0 w : World) (s : ByteArray) (most : Int) (h0 : 0 < s.size) (hb : Buf B v l W0 w) (hs : s.size ≤ 1000000) (hl : l.length ≤ 1000000) (hm : most ≤ 9223372036854775807) (hm' : -9223372036854775808 ≤ most) :
    Calls Tryd.prog 14 #[v, .string s, .int .i64 most] w (TokP B W0 (Lz.tk most s[0] ((toL s).drop 1) l)) := by
  have c8 : s[0].toNat < 256 := UInt8.toNat_lt _
  have hv : ∃ a c, v = .slice a l.length c := by
    rcases hb.form with ⟨rfl, rfl⟩ | ⟨g, c, rfl, _⟩
    · exact ⟨_, _, rfl⟩
    · exact ⟨_, _, rfl⟩
  obtain ⟨A, C, rfl⟩ := hv
  obtain ⟨r, hk⟩ : ∃ r, r = Lz.tk most s[0] ((toL s).drop 1) l := ⟨_, rfl⟩
  rw [← hk]
  unfold Lz.tk at hk
  have dl : ((toL s).drop 1).length = s.size - 1 := by rw [List.length_drop, toL_len]
  by_cases hc : s[0].toNat < 128
  · rw [if_pos hc, dl] at hk
    by_cases h1 : s.size - 1 < s[0].toNat + 1
    · rw [if_pos h1] at hk
      have HK := Lib.hid hk
      clear hk dl
      go_enter Tryd.func14, Tryd.ntmps14
      go_wp2_with fail
      go_ret3
      exact TokP.no HK.out (by decide) hb
    · rw [if_neg h1] at hk
      by_cases h2 : most < (l.length + (s[0].toNat + 1) : Nat)
      · rw [if_pos h2] at hk
        have HK := Lib.hid hk
        clear hk dl
        go_enter Tryd.func14, Tryd.ntmps14
        go_wp2_with fail
        go_ret3
        exact TokP.no HK.out (by decide) hb
      · rw [if_neg h2] at hk
        have Z : Hid ((s.extract 1 (1 + (s[0].toNat + 1))).size = s[0].toNat + 1) := Lib.hid (by rw [ByteArray.size_extract]; omega)
        have X : Hid (toL (s.extract 1 (1 + (s[0].toNat + 1))) = ((toL s).drop 1).take (s[0].toNat + 1)) := Lib.hid (by rw [toL_extract _ _ _ (by omega), List.drop_take]; congr 1; omega)
        have HK := Lib.hid hk
        clear hk dl
        go_enter Tryd.func14, Tryd.ntmps14
        go_wp2_with (at_builtin; go_must (refine app_str rfl (.tmp 30) (.tmp 34) rfl B _ l rfl W0 _ hb rfl (by have := Z.out; omega) ?_; intro v2 w2 hB2))
        go_ret3
        rw [X.out] at hB2
        have := TokP.yes HK.out hB2
        have e : ((s[0].toNat + 2 : Nat) : Int) = 1 + ((s[0].toNat : Int) + 1) := by omega
        rw [e] at this
        exact this
  · rw [if_neg hc] at hk
    by_cases h3 : s.size < 3
    · have HK : Hid (r = (4, 0, [])) := by
        refine Lib.hid ?_
        rw [hk]
        generalize (toL s).drop 1 = t at *
        match t, dl with
        | [], _ => rfl
        | [_], _ => rfl
        | _ :: _ :: _, dl => simp at dl; omega
      clear hk dl
      go_enter Tryd.func14, Tryd.ntmps14
      go_wp2_with fail
      go_ret3
      exact TokP.no HK.out (by decide) hb
    · rw [toL_cons3 s (by omega)] at hk
      dsimp only at hk
      have b1 : s[1].toNat < 256 := UInt8.toNat_lt _
      have b2 : s[2].toNat < 256 := UInt8.toNat_lt _
      obtain ⟨far, hfar⟩ : ∃ far, far = s[1].toNat + 256 * s[2].toNat := ⟨_, rfl⟩
      obtain ⟨n, hn⟩ : ∃ n, n = s[0].toNat - 124 := ⟨_, rfl⟩
      have X : bits .or .i64 (s[1].toNat : Int) ((s[2].toNat : Int) * 256) = (far : Int) := by
        have e : (s[2].toNat : Int) * (256 : Int) = ((s[2].toNat * 256 : Nat) : Int) := by omega
        rw [e, i64_or_nat _ _ (by omega) (by omega), hfar]
        congr 1
        have := Nat.two_pow_add_eq_or_of_lt (i := 8) (show s[1].toNat < 2 ^ 8 from b1) s[2].toNat
        rw [Nat.or_comm, show s[2].toNat * 256 = 2 ^ 8 * s[2].toNat from by omega, ← this]
        omega
      rw [← hfar, ← hn] at hk
      have i1 : (1 : Int) < (s.size : Int) := by omega
      have i2 : (2 : Int) < (s.size : Int) := by omega
      have hfar' : far < 65536 := by omega
      have hn' : (s[0].toNat : Int) - 124 = (n : Int) := by omega
      have n1 : 4 ≤ n := by omega
      have n2 : n ≤ 131 := by omega
      clear hfar hn dl
      by_cases h4 : far = 0 ∨ l.length < far
      · rw [if_pos h4] at hk
        have HK := Lib.hid hk
        clear hk
        by_cases h5 : far = 0
        · subst h5
          go_enter Tryd.func14, Tryd.ntmps14
          go_wp2_with fail
          go_quiet (fail)
          go_wp2_with fail
          go_ret3
          exact TokP.no HK.out (by decide) (Buf.drewN hb _)
        · have h6 : l.length < far := by omega
          have t0 : ((far : Int) == 0) = false := by rw [beq_eq_false_iff_ne]; omega
          go_enter Tryd.func14, Tryd.ntmps14
          go_wp2_with fail
          go_quiet (fail)
          go_wp2_with fail
          go_ret3
          exact TokP.no HK.out (by decide) (Buf.drewN hb _)
      · rw [if_neg h4] at hk
        have h5 : 1 ≤ far := by omega
        have h6 : far ≤ l.length := by omega
        have t0 : ((far : Int) == 0) = false := by rw [beq_eq_false_iff_ne]; omega
        clear h4
        by_cases h7 : most < (l.length + n : Nat)
        · rw [if_pos h7] at hk
          have HK := Lib.hid hk
          clear hk
          go_enter Tryd.func14, Tryd.ntmps14
          go_wp2_with fail
          go_quiet (fail)
          go_wp2_with fail
          go_ret3
          exact TokP.no HK.out (by decide) (Buf.drewN hb _)
        · rw [if_neg h7] at hk
          have HK := Lib.hid hk
          clear hk
          have t1 : decide (l.length < far) = false := by simpa using h6
          have t2 : decide (most < (l.length : Int) + (n : Int)) = false := by rw [decide_eq_false_iff_not]; omega
          have t3 : decide ((s[0].toNat : Int) < 128) = false := by rw [decide_eq_false_iff_not]; omega
          have t4 : decide ((s.size : Int) < 3) = false := by rw [decide_eq_false_iff_not]; omega
          go_enter Tryd.func14, Tryd.ntmps14
          go_wp2_with fail
          go_quiet (fail)
          go_wp2_with fail
          have hb' := Buf.drewN hb nq
          generalize w.drewN nq = w at hb' ⊢
          clear hb X
          go_loopw [68, 0] (fun i a wr => ∃ (k : Nat) (v : Value) (o : List UInt8), k ≤ n ∧ i = .int .i64 k ∧ a = v ∧ Buf B v o W0 wr ∧ o.length = l.length + k ∧ Hid (Lz.cp far (n - k) o = Lz.cp far n l)) (fun i _ _ => n - (intOf i).toNat)
          case atStart => exact ⟨0, _, l, Nat.zero_le _, rfl, rfl, hb', rfl, rfl⟩
          case round =>
            obtain ⟨k, v, o, hk, rfl, rfl, hB, hlo, hcp⟩ := hrel
            by_cases hlt : k < n
            · rcases hB.form with ⟨rfl, rfl⟩ | ⟨g, c, rfl, hg, hcell⟩
              · simp at hlo; omega
              · obtain ⟨q, hq⟩ : ∃ q, q = o.length - far := ⟨_, rfl⟩
                have ec := hcell q (by omega)
                have eq : (o.length : Int) - (far : Int) = (q : Int) := by omega
                have q1 : q < o.length := by omega
                have q3 : q < 2000000 := by omega
                have q2 : (q : Int) < (o.length : Int) := by omega
                have HC : Hid (Lz.cp far (n - (k + 1)) (o ++ [o.getD q 0]) = Lz.cp far n l) := by
                  refine Lib.hid ?_
                  rw [← hcp.out, show n - k = n - (k + 1) + 1 from by omega]
                  conv => rhs; unfold Lz.cp
                  rw [hq]
                have HL := Lib.hid hlo
                generalize o.getD q 0 = x at *
                clear hcell hcp hq hlo
                go_wp2_with (at_builtin; go_must (refine app_one rfl (.tmp 70) (.tmp 78) rfl B _ o rfl W0 wr _ x rfl hB rfl (by have := HL.out; omega) ?_; intro v1 w1 hB1))
                go_roundw
                case rel => exact ⟨k + 1, _, _, by omega, by go_num, rfl, ‹_›, by have := HL.out; simp; omega, HC⟩
                case measure => simp [intOf]; omega
            · obtain rfl : k = n := by omega
              have HC : Hid (o = Lz.cp far k l) := by
                have := hcp.out
                rw [Nat.sub_self] at this
                exact this
              clear hcp
              go_wp2_with fail
              go_ret3
              exact TokP.yes (by rw [HK.out, HC.out]) hB
theorem ret_str {a b : ByteArray} (n : Int) (h : a = b) : Ending.returned (.tuple #[.string a, .int .i64 n]) = .returned (.tuple #[.string b, .int .i64 n]) := by rw [h]
/-- a text, and why it is none -/
def UnP (r : Nat × List UInt8) (e : Ending) : Prop := e = .returned (.tuple #[.string (ofL r.2), .int .i64 (r.1 : Nat)])
theorem UnP.mk {r : Nat × List UInt8} {k : Nat} {l : List UInt8} (h : r = (k, l)) : UnP r (.returned (.tuple #[.string (ofL l), .int .i64 (k : Nat)])) := by subst h; rfl
theorem tk_bd (most : Int) (c : UInt8) (t out : List UInt8) : (Lz.tk most c t out).1 = 0 → (Lz.tk most c t out).2.1 ≤ t.length + 1 ∧ 1 ≤ (Lz.tk most c t out).2.1 ∧ (Lz.tk most c t out).2.2.length ≤ out.length + 131 := by
  unfold Lz.tk
  by_cases hc : c.toNat < 128
  · rw [if_pos hc]
    by_cases h1 : t.length < c.toNat + 1
    · rw [if_pos h1]; intro h; simp at h
    · rw [if_neg h1]
      by_cases h2 : most < ((out.length + (c.toNat + 1) : Nat) : Int)
      · rw [if_pos h2]; intro h; simp at h
      · rw [if_neg h2]; intro h
        simp
        omega
  · have c8 := c.toNat_lt
    rw [if_neg hc]
    match t with
    | [] => intro h; simp at h
    | [x] => intro h; simp at h
    | x :: y :: t =>
      dsimp only
      split
      · intro h; simp at h
      · split
        · intro h; simp at h
        · intro h
          simp [Lz.cp_len]
          omega
set_option maxRecDepth 100000 in
set_option maxHeartbeats 1000000 in
theorem unpack_any (s : ByteArray) (most : Int) (w : World) (hs : s.size ≤ 7000) (hm : most ≤ 9223372036854775807) (hm' : -9223372036854775808 ≤ most) :
    Calls Tryd.prog 9 #[.string s, .int .i64 most] w fun e w' => UnP (Lz.unpack most (toL s)) e ∧ Below w.heap.size w w' := by
  by_cases hn : most < 0 ∧ s.size = 0
  · have HU : Hid (Lz.unpack most (toL s) = (6, [])) := Lib.hid (by unfold Lz.unpack; rw [if_pos ⟨hn.1, toL_nil.2 hn.2⟩])
    obtain ⟨h1, h2⟩ := hn
    go_enter Tryd.func9, Tryd.ntmps9
    go_wp2_with fail
    go_ret2
    exact ⟨UnP.mk HU.out, Below.refl _ _⟩
  · have HU : Hid (Lz.unpack most (toL s) = Lz.una most (toL s) []) := Lib.hid (by unfold Lz.unpack; rw [if_neg (fun h => hn ⟨h.1, toL_nil.1 h.2⟩)])
    have t0 : most < 0 → ((s.size : Int) == 0) = false := fun h => by rw [beq_eq_false_iff_ne]; omega
    by_cases hneg : most < 0
    all_goals
      first | replace t0 := t0 hneg | clear t0
      clear hn
      go_enter Tryd.func9, Tryd.ntmps9
      go_wp2_with fail
      go_loopw [0, 6] (fun b a wr => ∃ (y : ByteArray) (v : Value) (l : List UInt8), b = .string y ∧ a = v ∧ y.size ≤ s.size ∧ l.length + 131 * y.size ≤ 131 * s.size ∧ Buf w.heap.size v l w wr ∧ Hid (Lz.una most (toL y) l = Lz.una most (toL s) [])) (fun b _ _ => (match b with | .string y => y.size | _ => 0))
      case atStart => exact ⟨s, _, [], rfl, rfl, Nat.le_refl _, by simp, Buf.nil _ _ (Nat.le_refl _), rfl⟩
      case round =>
        obtain ⟨y, v, l, rfl, rfl, hy, hl, hB, hU⟩ := hrel
        try clear t0
        clear hneg
        by_cases h0 : 0 < y.size
        · have hc := token_any w.heap.size u6 l w wr y most h0 hB (by omega) (by omega) hm hm'
          have hstep := Lz.una_tk most y[0] ((toL y).drop 1) l
          have hbd := tk_bd most y[0] ((toL y).drop 1) l
          have ey : y[0] :: (toL y).drop 1 = toL y := (toL_cons y h0).symm
          have elen : ((toL y).drop 1).length + 1 = y.size := by rw [List.length_drop, toL_len]; omega
          rw [ey, hU.out] at hstep
          rw [elen] at hbd
          clear hU ey elen
          generalize Lz.tk most y[0] ((toL y).drop 1) l = r at *
          obtain ⟨err, used, o⟩ := r
          dsimp only at hstep hbd
          by_cases he : err = 0
          · subst he
            rw [if_pos rfl] at hstep
            obtain ⟨u1, u2, u3⟩ := hbd rfl
            have HS : Hid (Lz.una most (toL (y.extract used y.size)) o = Lz.una most (toL s) []) := Lib.hid (by
              rw [hstep, toL_extract _ _ _ (Nat.le_refl _), ← toL_len y, List.take_length])
            have HZ : Hid ((y.extract used y.size).size = y.size - used) := Lib.hid (by rw [ByteArray.size_extract]; omega)
            clear hstep hbd
            go_wp2_with fail
            refine hc.mono ?_
            rintro e w1 ⟨v1, rfl, -, -, hB1⟩
            replace hB1 := hB1 rfl
            dsimp only at hB1 ⊢
            go_wp2_with fail
            go_roundw
            case rel => exact ⟨_, _, o, rfl, rfl, by have := HZ.out; omega, by have := HZ.out; omega, hB1, HS⟩
            case measure => have := HZ.out; simp; omega
          · rw [if_neg he] at hstep
            have t1 : (!((err : Int) == 0)) = true := by simp; omega
            have t2 : ((err : Int) == 0) = false := by simp; omega
            have HS := Lib.hid hstep
            clear hstep hbd
            go_wp2_with fail
            refine hc.mono ?_
            rintro e w1 ⟨v1, rfl, hb1, -, -⟩
            dsimp only at hb1 ⊢
            go_wp2_with fail
            go_ret2
            exact ⟨UnP.mk (by rw [HU.out, HS.out]), hb1⟩
        · have HS : Hid (Lz.unpack most (toL s) = (0, l)) := Lib.hid (by
            rw [HU.out, ← hU.out, show toL y = [] from by rw [toL_nil]; omega, Lz.una_nil])
          have cv := conv_buf hB
          clear hU
          go_wp2_with fail
          go_ret2
          exact ⟨UnP.mk HS.out, hB.below⟩
end Go.Proofs.YtoggibooinhomaaDoor.Z
