/-
  THE WALKS of the document's Dec and Int.
-/
import Derived.Test.YtdjejohppbkbcaaDoorDa
import Derived.Test.YtdjejohppbkbcaaDoorNl
import Derived.IntWalk
namespace Go.Proofs.YtdjejohppbkbcaaDoor
open Go.RowKit
open Dm
set_option linter.unusedVariables false
set_option linter.unusedSimpArgs false
theorem rstr {a b : ByteArray} (h : a = b) : Ending.returned (.string a) = .returned (.string b) := by rw [h]
def it (n : Int) : ByteArray := ⟨(Lib.itoa n).toArray⟩
theorem it_size {n : Int} (h : In n) : (it n).size ≤ 20 := by
  have := (itoa_len h).2
  simpa [it, ByteArray.size] using this
theorem it_one {d : Nat} (h : d < 10) : it (d : Int) = ⟨#[UInt8.ofNat (48 + d)]⟩ := by
  unfold it
  rw [Lib.itoa_nonneg, dec_small h]
theorem it_neg {d : Nat} (h1 : 1 ≤ d) : it (-(d : Int)) = ⟨#[45]⟩ ++ it (d : Int) := by
  unfold it
  rw [Lib.itoa_neg d h1, Lib.itoa_nonneg]
  apply ByteArray.ext
  simp
theorem it_step {n : Int} (h : ¬ (-10 < n ∧ n < 10)) : it n = it (n.tdiv 10) ++ it ((n.natAbs % 10 : Nat) : Int) := by
  unfold it
  rw [itoa_step n h]
  apply ByteArray.ext
  simp
set_option maxRecDepth 100000 in
theorem rdec_one (d : Nat) (h : d < 10) (w : World) : Calls Tryd.prog 8 #[.int .i64 (d : Int)] w fun e w' => e = .returned (.string (it (d : Int))) ∧ Below w.heap.size w w' := by
  have cv := Nm.conv_new
  have HE := Lib.hid (it_one h)
  go_enter Tryd.func8, Tryd.ntmps8
  go_wp2_with fail
  go_ret
  exact ⟨rstr HE.out.symm, (Below.refl _ _).alloc (Nat.le_refl _) _⟩
set_option maxRecDepth 100000 in
set_option maxHeartbeats 1000000 in
theorem rdec_any : ∀ (f : Nat) (n : Int) (w : World), In n → n.natAbs < 10 ^ f → 
    Calls Tryd.prog 8 #[.int .i64 n] w fun e w' => e = .returned (.string (it n)) ∧ Below w.heap.size w w'
  | 0, n, w, _, hf => by
    have : n = 0 := by simp at hf; omega
    subst this
    exact rdec_one 0 (by omega) w
  | f + 1, n, w, hn, hf => by
    obtain ⟨lo, hi⟩ := id hn
    by_cases h1 : 0 ≤ n ∧ n < 10
    · obtain ⟨d, rfl⟩ := Int.eq_ofNat_of_zero_le h1.1
      exact rdec_one d (by omega) w
    · by_cases h2 : n < 0 ∧ -10 < n
      · obtain ⟨d, rfl⟩ : ∃ d : Nat, n = -(d : Int) := ⟨n.natAbs, by omega⟩
        have HE := Lib.hid (it_neg (d := d) (by omega))
        have hz := it_size (n := (d : Int)) (by unfold In; omega)
        have hc := fun w => rdec_one d (by omega) w
        generalize it (d : Int) = z at *
        obtain ⟨c1, c2⟩ := h2
        clear hf hn h1
        go_enter Tryd.func8, Tryd.ntmps8
        go_wp2_with fail
        refine (hc _).mono ?_
        rintro e w1 ⟨rfl, hb⟩
        go_wp2_with fail
        go_ret
        exact ⟨rstr HE.out.symm, hb⟩
      · by_cases hneg : n < 0
        · obtain ⟨u, rfl⟩ : ∃ u : Nat, n = -(u : Int) := ⟨n.natAbs, by omega⟩
          have hq : (-(u : Int)).tdiv 10 = -((u / 10 : Nat) : Int) := by rw [Int.neg_tdiv, Int.tdiv_eq_ediv_of_nonneg (by omega)]; rfl
          have hr : (-(u : Int)).tmod 10 = -((u % 10 : Nat) : Int) := by rw [Int.neg_tmod, Int.tmod_eq_emod_of_nonneg (by omega)]; rfl
          have HE := it_step (n := -(u : Int)) (by omega)
          rw [hq, Int.natAbs_neg, Int.natAbs_natCast] at HE
          have hf' : u / 10 < 10 ^ f := by rw [Nat.pow_succ] at hf; omega
          have hd : u % 10 < 10 := Nat.mod_lt _ (by omega)
          have hu : u / 10 ≤ 922337203685477580 := by omega
          have hu1 : 1 ≤ u / 10 := by omega
          generalize u / 10 = q at *
          generalize u % 10 = r at *
          have hz1 := it_size (n := -(q : Int)) (by unfold In; omega)
          have hz2 := it_size (n := (r : Int)) (by unfold In; omega)
          have HC1 : Hid (∀ w, Calls Tryd.prog 8 #[.int .i64 (-(q : Int))] w fun e w' => e = .returned (.string (it (-(q : Int)))) ∧ Below w.heap.size w w') := Lib.hid fun w => rdec_any f (-(q : Int)) w (by unfold In; omega) (by rw [Int.natAbs_neg, Int.natAbs_natCast]; exact hf')
          have HC2 := Lib.hid (fun w => rdec_one r hd w)
          have HF := Lib.hid HE
          clear HE hf hf' hn
          generalize it (-(q : Int)) = z1 at *
          generalize it (r : Int) = z2 at *
          by_cases hr0 : r = 0
          · subst hr0
            go_enter Tryd.func8, Tryd.ntmps8
            go_wp2_with fail
            refine (HC1.out _).mono ?_
            rintro e w1 ⟨rfl, hb⟩
            go_wp2_with fail
            refine (HC2.out _).mono ?_
            rintro e w2 ⟨rfl, hb2⟩
            go_wp2_with fail
            go_ret
            exact ⟨rstr HF.out.symm, hb.trans (hb2.mono hb.size)⟩
          · have hrn : -(r : Int) < 0 := by omega
            go_enter Tryd.func8, Tryd.ntmps8
            go_wp2_with fail
            refine (HC1.out _).mono ?_
            rintro e w1 ⟨rfl, hb⟩
            go_wp2_with fail
            refine (HC2.out _).mono ?_
            rintro e w2 ⟨rfl, hb2⟩
            go_wp2_with fail
            go_ret
            exact ⟨rstr HF.out.symm, hb.trans (hb2.mono hb.size)⟩
        · obtain ⟨u, rfl⟩ : ∃ u : Nat, n = (u : Int) := ⟨n.natAbs, by omega⟩
          have hq : ((u : Int)).tdiv 10 = ((u / 10 : Nat) : Int) := by rw [Int.tdiv_eq_ediv_of_nonneg (by omega)]; rfl
          have HE := it_step (n := (u : Int)) (by omega)
          rw [hq, Int.natAbs_natCast] at HE
          have hf' : u / 10 < 10 ^ f := by rw [Nat.pow_succ, Int.natAbs_natCast] at hf; omega
          have hd : u % 10 < 10 := Nat.mod_lt _ (by omega)
          have hu : u / 10 ≤ 922337203685477580 := by omega
          have e1 : (u : Int) / 10 = ((u / 10 : Nat) : Int) := rfl
          have e2 : (u : Int) % 10 = ((u % 10 : Nat) : Int) := rfl
          generalize u / 10 = q at *
          generalize u % 10 = r at *
          have hz1 := it_size (n := (q : Int)) (by unfold In; omega)
          have hz2 := it_size (n := (r : Int)) (by unfold In; omega)
          have HC1 : Hid (∀ w, Calls Tryd.prog 8 #[.int .i64 (q : Int)] w fun e w' => e = .returned (.string (it (q : Int))) ∧ Below w.heap.size w w') := Lib.hid fun w => rdec_any f (q : Int) w (by unfold In; omega) (by rw [Int.natAbs_natCast]; exact hf')
          have HC2 := Lib.hid (fun w => rdec_one r hd w)
          have HF := Lib.hid HE
          clear HE hf hf' hn hq
          generalize it (q : Int) = z1 at *
          generalize it (r : Int) = z2 at *
          go_enter Tryd.func8, Tryd.ntmps8
          go_wp2_with fail
          refine (HC1.out _).mono ?_
          rintro e w1 ⟨rfl, hb⟩
          go_wp2_with fail
          refine (HC2.out _).mono ?_
          rintro e w2 ⟨rfl, hb2⟩
          go_wp2_with fail
          go_ret
          exact ⟨rstr HF.out.symm, hb.trans (hb2.mono hb.size)⟩
theorem rdec_in (n : Int) (h : In n) (w : World) : Calls Tryd.prog 8 #[.int .i64 n] w fun e w' => e = .returned (.string (it n)) ∧ Below w.heap.size w w' :=
  rdec_any 19 n w h (by unfold In at h; rw [show 10 ^ 19 = 10000000000000000000 from by decide]; omega)
theorem it_toL (n : Int) : (it n).data.toList = Lib.itoa n := by simp [it]
theorem snoc_get (s : ByteArray) (k : Nat) (h : k < s.size) : s.data.toList.take (k + 1) = s.data.toList.take k ++ [s[k]] := by
  rw [List.take_succ_eq_append_getElem (by simpa using h)]; rfl
theorem get_mem (s : ByteArray) (k : Nat) (h : k < s.size) : s[k] ∈ s.data.toList := by
  have : s.data.toList[k]'(by simpa using h) = s[k] := rfl
  rw [← this]
  exact List.getElem_mem _
def DgOk (c : UInt8) : Prop := 48 ≤ c.toNat ∧ c.toNat ≤ 57
theorem st_pos (a : Int) (c : UInt8) : st false a c = wrap64 (wrap64 (a * 10) + ((c.toNat : Int) - 48)) := by unfold st wr wrap64; rw [if_neg (by decide)]
theorem st_min (a : Int) (c : UInt8) : st true a c = wrap64 (wrap64 (a * 10) - ((c.toNat : Int) - 48)) := by unfold st wr wrap64; rw [if_pos rfl]
theorem rint_pos (u : Nat) (hu : u ≤ 9223372036854775807) (w : World) :
    Calls Tryd.prog 6 #[.string (it (u : Int))] w fun e w' => e = .returned (.tuple #[.int .i64 (u : Int), .bool true]) ∧ Below w.heap.size w w' := by
  have hin : In (u : Int) := by unfold In; omega
  have hl := it_toL (u : Int)
  rw [Lib.itoa_nonneg] at hl
  have hv := rd_pos u hu
  have hdg := (dec_digits u).2
  have hlen := itoa_len hin
  have hsz : (it (u : Int)).size = (Lib.itoa (u : Int)).length := by simp [it, ByteArray.size]
  rw [← hsz] at hlen
  rw [← hl] at hv hdg
  have HD : Hid (∀ w, Calls Tryd.prog 8 #[.int .i64 (u : Int)] w fun e w' => e = .returned (.string (it (u : Int))) ∧ Below w.heap.size w w') := Lib.hid fun w => rdec_in (u : Int) hin w
  clear hl hsz hin
  generalize it (u : Int) = s at *
  obtain ⟨l1, l2⟩ := hlen
  have HV := Lib.hid hv
  have d0 : DgOk s[0] := hdg _ (get_mem s 0 (by omega))
  have HG : Hid (∀ k (h : k < s.size), DgOk s[k]) := Lib.hid fun k h => hdg _ (get_mem s k h)
  have t0 : ((s.size : Int) == 0) = false := by rw [beq_eq_false_iff_ne]; omega
  have t1 : decide (20 < (s.size : Int)) = false := by rw [decide_eq_false_iff_not]; omega
  have c0 : ((s[0].toNat : Int) == 45) = false := by unfold DgOk at d0; rw [beq_eq_false_iff_ne]; omega
  clear hv hdg d0
  go_enter Tryd.func6, Tryd.ntmps6
  go_wp2_with fail
  go_loop [4, 5] (fun n i => ∃ k : Nat, k ≤ s.size ∧ i = .int .i64 k ∧ n = .int .i64 (rd false (s.data.toList.take k))) (fun _ i => s.size - (intOf i).toNat)
  case atStart => exact ⟨0, by omega, rfl, rfl⟩
  case round =>
    obtain ⟨k, hk, rfl, rfl⟩ := hrel
    by_cases hlt : k < s.size
    · have hs := rd_snoc false (s.data.toList.take k) s[k]
      rw [← snoc_get s k hlt] at hs
      obtain ⟨g1, g2⟩ := HG.out k hlt
      have HS := Lib.hid hs
      clear hs
      generalize rd false (s.data.toList.take k) = a at *
      have i1 : (k : Int) < (s.size : Int) := by omega
      have c1 : ((s[k].toNat : Int) == 45) = false := by rw [beq_eq_false_iff_ne]; omega
      have c2 : decide ((s[k].toNat : Int) < 48) = false := by rw [decide_eq_false_iff_not]; omega
      have c3 : decide (57 < (s[k].toNat : Int)) = false := by rw [decide_eq_false_iff_not]; omega
      go_wp2_with fail
      go_round
      case rel =>
        refine ⟨k + 1, by omega, by go_num, ?_⟩
        rw [HS.out, st_pos]
      case measure => simp [intOf]; omega
    · obtain rfl : k = s.size := by omega
      have e1 : rd false (s.data.toList.take s.size) = (u : Int) := by rw [List.take_of_length_le (by simp)]; exact HV.out
      go_wp2_with fail
      refine (HD.out _).mono ?_
      rintro e w1 ⟨rfl, hb⟩
      go_wp2_with fail
      go_ret2
      exact ⟨rfl, hb⟩
theorem rint_neg (u : Nat) (h1 : 1 ≤ u) (hu : u ≤ 9223372036854775808) (w : World) :
    Calls Tryd.prog 6 #[.string (it (-(u : Int)))] w fun e w' => e = .returned (.tuple #[.int .i64 (-(u : Int)), .bool true]) ∧ Below w.heap.size w w' := by
  have hin : In (-(u : Int)) := by unfold In; omega
  have hl := it_toL (-(u : Int))
  rw [Lib.itoa_neg u h1] at hl
  have hv := rd_neg u hu
  have hdg := (dec_digits u).2
  have hlen := itoa_len hin
  have hsz : (it (-(u : Int))).size = (Lib.itoa (-(u : Int))).length := by simp [it, ByteArray.size]
  rw [← hsz] at hlen
  have hD : Lib.decDigits u = (it (-(u : Int))).data.toList.drop 1 := by rw [hl]; rfl
  rw [hD] at hv hdg
  have h0 : (it (-(u : Int))).data.toList[0]? = some 45 := by rw [hl]; rfl
  have HD : Hid (∀ w, Calls Tryd.prog 8 #[.int .i64 (-(u : Int))] w fun e w' => e = .returned (.string (it (-(u : Int)))) ∧ Below w.heap.size w w') := Lib.hid fun w => rdec_in (-(u : Int)) hin w
  clear hl hsz hin hD
  generalize it (-(u : Int)) = s at *
  obtain ⟨l1, l2⟩ := hlen
  have HV := Lib.hid hv
  have d0 : s[0] = 45 := by
    have : s.data.toList[0]? = some s[0] := by rw [List.getElem?_eq_getElem (by simpa using (by omega : 0 < s.size))]; rfl
    rw [this] at h0
    exact Option.some.inj h0
  have HG : Hid (∀ k (h : k < s.size), 1 ≤ k → DgOk s[k]) := Lib.hid fun k h hk => by
    refine hdg _ ?_
    have e : s.data.toList[k]'(by simpa using h) = s[k] := rfl
    rw [← e, List.mem_iff_getElem]
    exact ⟨k - 1, by simp; omega, by rw [List.getElem_drop]; congr 1; omega⟩
  have t0 : ((s.size : Int) == 0) = false := by rw [beq_eq_false_iff_ne]; omega
  have t1 : decide (20 < (s.size : Int)) = false := by rw [decide_eq_false_iff_not]; omega
  have c0 : ((s[0].toNat : Int) == 45) = true := by rw [d0]; rfl
  have hA : Hid (rd true ((s.data.toList.take 0).drop 1) = 0) := Lib.hid rfl
  have hB : Hid (rd true ((s.data.toList.take 1).drop 1) = 0) := Lib.hid (by rw [List.drop_eq_nil_of_le (by simp; omega)]; rfl)
  clear hv hdg h0 d0
  go_enter Tryd.func6, Tryd.ntmps6
  go_wp2_with fail
  go_loop [4, 5] (fun n i => ∃ (k : Nat) (a : Int), k ≤ s.size ∧ i = .int .i64 k ∧ n = .int .i64 a ∧ Hid (rd true ((s.data.toList.take k).drop 1) = a)) (fun _ i => s.size - (intOf i).toNat)
  case atStart => exact ⟨0, 0, by omega, rfl, rfl, hA⟩
  case round =>
    obtain ⟨k, a, hk, rfl, rfl, ha⟩ := hrel
    by_cases hlt : k < s.size
    · have i1 : (k : Int) < (s.size : Int) := by omega
      by_cases hk0 : k = 0
      · subst hk0
        have ea : a = 0 := ha.out.symm.trans hA.out
        subst ea
        go_wp2_with fail
        go_round
        case rel => exact ⟨1, 0, by omega, by go_num, rfl, hB⟩
        case measure => simp [intOf]; omega
      · have hs := rd_snoc true ((s.data.toList.take k).drop 1) s[k]
        rw [ha.out] at hs
        have hs2 : (s.data.toList.take (k + 1)).drop 1 = (s.data.toList.take k).drop 1 ++ [s[k]] := by
          rw [snoc_get s k hlt, List.drop_append, show 1 - (s.data.toList.take k).length = 0 from by simp; omega, List.drop_zero]
        rw [← hs2] at hs
        obtain ⟨g1, g2⟩ := HG.out k hlt (by omega)
        rw [st_min] at hs
        have HS := Lib.hid hs
        clear hs hs2 ha
        have c1 : ((s[k].toNat : Int) == 45) = false := by rw [beq_eq_false_iff_ne]; omega
        have c2 : decide ((s[k].toNat : Int) < 48) = false := by rw [decide_eq_false_iff_not]; omega
        have c3 : decide (57 < (s[k].toNat : Int)) = false := by rw [decide_eq_false_iff_not]; omega
        go_wp2_with fail
        go_round
        case rel => exact ⟨k + 1, _, by omega, by go_num, rfl, HS⟩
        case measure => simp [intOf]; omega
    · obtain rfl : k = s.size := by omega
      have e1 : a = -(u : Int) := by rw [← ha.out, List.take_of_length_le (by simp)]; exact HV.out
      subst e1
      go_wp2_with fail
      refine (HD.out _).mono ?_
      rintro e w1 ⟨rfl, hb⟩
      go_wp2_with fail
      go_ret2
      exact ⟨rfl, hb⟩
theorem rint_yes (m : Int) (hm : In m) (w : World) : Calls Tryd.prog 6 #[.string (it m)] w fun e w' => e = .returned (.tuple #[.int .i64 m, .bool true]) ∧ Below w.heap.size w w' := by
  unfold In at hm
  by_cases hneg : m < 0
  · obtain ⟨u, rfl⟩ : ∃ u : Nat, m = -(u : Int) := ⟨m.natAbs, by omega⟩
    exact rint_neg u (by omega) (by omega) w
  · obtain ⟨u, rfl⟩ : ∃ u : Nat, m = (u : Int) := ⟨m.natAbs, by omega⟩
    exact rint_pos u (by omega) w
theorem wrap_in (n : Int) : In (wrap64 n) := by
  unfold In wrap64
  omega
theorem str_ne {z s : ByteArray} (h : z ≠ s) : (z.toList == s.toList) = false := by
  rw [beq_eq_false_iff_ne]
  intro e
  exact h (by apply ByteArray.ext; apply Array.ext'; rw [← Go.ByteArray.toList_eq, ← Go.ByteArray.toList_eq]; exact e)
theorem rint_no (s : ByteArray) (hno : ∀ m, In m → s ≠ it m) (hs : s.size ≤ 2000) (w : World) :
    Calls Tryd.prog 6 #[.string s] w fun e w' => e = .returned (.tuple #[.int .i64 0, .bool false]) ∧ Below w.heap.size w w' := by
  by_cases h0 : s.size = 0
  · have t0 : ((s.size : Int) == 0) = true := by rw [h0]; rfl
    clear hno
    go_enter Tryd.func6, Tryd.ntmps6
    go_wp2_with fail
    go_ret2
    exact ⟨rfl, Below.refl _ _⟩
  · have t0 : ((s.size : Int) == 0) = false := by rw [beq_eq_false_iff_ne]; omega
    by_cases h20 : 20 < s.size
    · clear hno
      go_enter Tryd.func6, Tryd.ntmps6
      go_wp2_with fail
      go_ret2
      exact ⟨rfl, Below.refl _ _⟩
    · have t1 : decide (20 < (s.size : Int)) = false := by rw [decide_eq_false_iff_not]; omega
      have HN := Lib.hid hno
      clear hno
      have b0 : s[0].toNat < 256 := UInt8.toNat_lt _
      go_enter Tryd.func6, Tryd.ntmps6
      go_wp2_with fail
      go_loop [4, 5] (fun n i => ∃ (k : Nat) (a : Int), k ≤ s.size ∧ i = .int .i64 k ∧ n = .int .i64 a ∧ Hid (In a)) (fun _ i => s.size - (intOf i).toNat)
      case atStart => exact ⟨0, 0, by omega, rfl, rfl, Lib.hid (by unfold In; omega)⟩
      case round =>
        obtain ⟨k, a, hk, rfl, rfl, ha⟩ := hrel
        by_cases hlt : k < s.size
        · have i1 : (k : Int) < (s.size : Int) := by omega
          have bk : s[k].toNat < 256 := UInt8.toNat_lt _
          by_cases hsk : k = 0 ∧ s[0].toNat = 45
          · obtain ⟨rfl, h45⟩ := hsk
            have c0 : ((s[0].toNat : Int) == 45) = true := by rw [h45]; rfl
            have s1 : 1 ≤ s.size := by omega
            clear h45
            go_wp2_with fail
            go_round
            case rel => exact ⟨1, a, s1, by go_num, rfl, ha⟩
            case measure => simp [intOf]; omega
          · have cA : ((s[k].toNat : Int) == 45) = false ∨ ((s[k].toNat : Int) == 45) = true ∧ ((k : Int) == 0) = false := by
              by_cases e : s[k].toNat = 45
              · right
                refine ⟨by rw [e]; rfl, ?_⟩
                rw [beq_eq_false_iff_ne]
                intro h
                have : k = 0 := by omega
                subst this
                exact hsk ⟨rfl, e⟩
              · left
                rw [beq_eq_false_iff_ne]
                omega
            have W1 := Lib.hid (wrap_in (wrap64 (a * 10) - ((s[k].toNat : Int) - 48)))
            have W2 := Lib.hid (wrap_in (wrap64 (a * 10) + ((s[k].toNat : Int) - 48)))
            clear hsk
            by_cases g1 : s[k].toNat < 48
            · have g1' : decide ((s[k].toNat : Int) < 48) = true := by rw [decide_eq_true_iff]; omega
              rcases cA with cA | ⟨cA, cB⟩
              all_goals
                go_wp2_with fail
                go_ret2
                exact ⟨rfl, Below.refl _ _⟩
            · by_cases g2 : 57 < s[k].toNat
              · have g1' : decide ((s[k].toNat : Int) < 48) = false := by rw [decide_eq_false_iff_not]; omega
                have g2' : decide (57 < (s[k].toNat : Int)) = true := by rw [decide_eq_true_iff]; omega
                rcases cA with cA | ⟨cA, cB⟩
                all_goals
                  go_wp2_with fail
                  go_ret2
                  exact ⟨rfl, Below.refl _ _⟩
              · have g1' : decide ((s[k].toNat : Int) < 48) = false := by rw [decide_eq_false_iff_not]; omega
                have g2' : decide (57 < (s[k].toNat : Int)) = false := by rw [decide_eq_false_iff_not]; omega
                by_cases c45 : s[0].toNat = 45
                · have c0 : ((s[0].toNat : Int) == 45) = true := by rw [c45]; rfl
                  rcases cA with cA | ⟨cA, cB⟩
                  all_goals
                    go_wp2_with fail
                    go_round
                    case rel => exact ⟨k + 1, _, by omega, by go_num, rfl, W1⟩
                    case measure => simp [intOf]; omega
                · have c0 : ((s[0].toNat : Int) == 45) = false := by rw [beq_eq_false_iff_ne]; omega
                  rcases cA with cA | ⟨cA, cB⟩
                  all_goals
                    go_wp2_with fail
                    go_round
                    case rel => exact ⟨k + 1, _, by omega, by go_num, rfl, W2⟩
                    case measure => simp [intOf]; omega
        · have HE := Lib.hid (str_ne (HN.out a ha.out).symm)
          obtain rfl : k = s.size := by omega
          have hd := fun w => rdec_in a ha.out w
          generalize it a = z at *
          have n1 := HE.out
          go_wp2_with fail
          refine (hd _).mono ?_
          rintro e w1 ⟨rfl, hb⟩
          go_wp2_with fail
          go_ret2
          exact ⟨rfl, hb⟩
end Go.Proofs.YtdjejohppbkbcaaDoor
