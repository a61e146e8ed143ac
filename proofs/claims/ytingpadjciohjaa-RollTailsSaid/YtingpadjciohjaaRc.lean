/-
  THE WALK of the document's Cut.
-/
import Derived.Test.YtingpadjciohjaaCu
import Derived.Deep.QuietTactic
import Derived.BigQuiet
namespace Go.Proofs.Ytingpadjciohjaa
open Go.RowKit
open Nm
set_option linter.unusedVariables false
set_option linter.unusedSimpArgs false
theorem quietA {P : Program} {f : FuncId} {args : Array Value} {w : World} {n : Nat} {v : Value}
    (h : Calls P f args (w.drewN n) fun e w' => e = .returned v ∧ w.drewN n = w') : Calls P f args (w.drewN n) fun e w'' => e = .returned v ∧ ∃ m, w'' = w.drewN m :=
  h.mono fun _ _ ⟨he, hm⟩ => ⟨he, n, hm.symm⟩
theorem At.dr {a b : World} {g : Nat} {w lo hi : Int} {m : Nat} (h : At a g w lo hi m) (k : Dr a b) : At b g w lo hi m := by
  obtain ⟨n, rfl⟩ := k
  exact ⟨h.c0, h.c1, h.c2, h.c3⟩
theorem win_drop (L : List UInt8) (k w j : Nat) (h : w ≤ j) : Ro.win (L.drop k) w j = (L.drop (k + j - w)).take (k + j - (k + j - w)) := by
  unfold Ro.win
  rw [List.drop_take, List.drop_drop]
  congr 1
  · omega
  · congr 1; omega
set_option maxRecDepth 100000 in
set_option maxHeartbeats 1000000 in
theorem rcut_no (D : ByteArray) (w lo hi : Int) (m : Nat) (W : World) (h : ¬ fitI w lo hi) :
    Calls Try.prog 11 #[.string D, .agg (cc w lo hi m)] W fun e W' => e = .returned (.tuple #[.slice none 0 0, .int .i64 2]) ∧ Below W.heap.size W W' := by
  have hk := fun wr => rcheck_any w lo hi m wr
  rw [chk_no h] at hk
  obtain ⟨k0, k1, k2, k3⟩ := at_new W w lo hi m 24
  clear h
  go_enter Try.func11, Try.ntmps11
  go_wp2_with fail
  refine (hk _).mono ?_
  rintro e w1 ⟨rfl, hb⟩
  replace hb := (grow W _).trans (hb.mono (grow W _).size)
  go_wp2_with fail
  go_ret2
  exact ⟨rfl, hb⟩
/-- where the document stops is where the first chunk ends -/
theorem one_stop (c : Ro.Cuts) (hc : c.Fit) (R : List UInt8) (j : Nat) (hlo : c.lo ≤ j) (hhi : j ≤ c.hi) (hno : ∀ i, c.lo ≤ i → i < j → Ro.cond c R i = false) (hj : j = c.lo ∨ j ≤ R.length)
    (hs : R.length ≤ j ∨ (j < R.length ∧ (j = c.hi ∨ Ro.cond c R j = true))) : Ro.one c R = min j R.length := by
  unfold Ro.one
  split
  · omega
  · rename_i h
    rw [fnd_is _ _ (j - c.lo) (by omega) (fun i a b => hno i a (by omega)) (by
      rw [show c.lo + (j - c.lo) = j from by omega]
      rcases hs with h1 | ⟨h1, h2 | h2⟩
      · right; omega
      · right; omega
      · left; exact h2)]
    omega
theorem step_next (c : Ro.Cuts) (hc : c.Fit) (D : ByteArray) (k n s : Nat) (acc : List ByteArray) (hk : k < D.size) (hs : s = k + n) (h1 : Ro.one c ((toL D).drop k) = n) (hx : acc.map toL ++ Ro.cut c ((toL D).drop k) = Ro.cut c (toL D)) :
    (acc ++ [D.extract k s]).map toL ++ Ro.cut c ((toL D).drop s) = Ro.cut c (toL D) ∧ 1 ≤ n ∧ s ≤ D.size := by
  have hne : (toL D).drop k ≠ [] := by
    intro h
    have := congrArg List.length h
    rw [List.length_drop, toL_length, List.length_nil] at this
    omega
  have hp := Ro.one_pos c hc _ hne
  have hcons := Ro.cut_cons c hc _ hne
  rw [h1, List.length_drop, toL_length] at hp
  rw [h1] at hcons
  refine ⟨?_, hp.1, by omega⟩
  rw [← hx, hcons, List.map_append, List.map_cons, List.map_nil, toL_extract, List.drop_drop, hs, List.append_assoc]
  simp
set_option maxRecDepth 100000 in
set_option maxHeartbeats 4000000 in
theorem rcut_any (D : ByteArray) (c : Ro.Cuts) (hc : c.Fit) (hm : c.mask < 4294967296) (hD : D.size ≤ 4000000000) (W : World) :
    Calls Try.prog 11 #[.string D, .agg (cc c.w c.lo c.hi c.mask)] W (CutPost D c W) := by
  have hk := fun wr => rcheck_any c.w c.lo c.hi c.mask wr
  rw [chk_yes (by obtain ⟨h1, h2, h3, h4, h5⟩ := hc; unfold fitI; omega)] at hk
  obtain ⟨a1, a2, a3, a4, a5⟩ := id hc
  have HC := Lib.hid hc
  have st := at_new W c.w c.lo c.hi c.mask 24
  have bW := grow W (Obj.cells (cc c.w c.lo c.hi c.mask) 24)
  obtain ⟨k0, k1, k2, k3⟩ := id st
  clear hc
  obtain ⟨w, lo, hi, m⟩ := c
  simp only at *
  go_enter Try.func11, Try.ntmps11
  go_wp2_with fail
  refine (hk _).mono ?_
  rintro e w1 ⟨rfl, hb⟩
  clear k0 k1 k2 k3
  replace st := st.below hb
  have bS : W.heap.size + 1 ≤ w1.heap.size := by have := hb.size; simp at this; omega
  replace bW := bW.trans (hb.mono bW.size)
  clear hb hk
  have st2 := st.below (grow w1 (Obj.cells #[] 9))
  have bW2 := bW.trans ((grow w1 (Obj.cells #[] 9)).mono bW.size)
  have rs2 : RS (w1.alloc (Obj.cells #[] 9)) (W.heap.size + 1) (some ⟨w1.heap.size, 0, none⟩) 0 0 [] := RS.empty (Own.new w1 9 #[]) bS
  have bS2 : W.heap.size + 1 ≤ (w1.alloc (Obj.cells #[] 9)).heap.size := by simp; omega
  have ST := Lib.hid (And.intro st2 (And.intro bW2 (And.intro rs2 bS2)))
  clear st st2 bW bW2 rs2 bS bS2
  go_wp2_with fail
  go_loopw [6, 7, 8] (fun v a _ wr => ∃ k A cap acc, a = .int .i64 (k : Nat) ∧ v = .slice A acc.length cap ∧ k ≤ D.size ∧ RS wr (W.heap.size + 1) A acc.length cap acc ∧ acc.map toL ++ Ro.cut ⟨w, lo, hi, m⟩ ((toL D).drop k) = Ro.cut ⟨w, lo, hi, m⟩ (toL D) ∧ acc.length ≤ k ∧ Below W.heap.size W wr ∧ At wr W.heap.size w lo hi m ∧ W.heap.size + 1 ≤ wr.heap.size) (fun _ a _ _ => D.size - (intOf a).toNat)
  case atStart => exact ⟨0, _, 0, [], rfl, rfl, Nat.zero_le _, ST.out.2.2.1, by simp, Nat.le_refl _, ST.out.2.1, ST.out.1, ST.out.2.2.2⟩
  case round =>
    obtain ⟨k, A, cap, acc, rfl, rfl, hk, hr, hx, hak, hbw, hat, hbs⟩ := hrel
    clear ST
    have HX := Lib.hid hx
    clear hx
    by_cases hl : k < D.size
    · have l0 : (k : Int) < (D.size : Int) := by omega
      obtain ⟨wo, rfl⟩ : ∃ wo : World, wo = wr := ⟨_, rfl⟩
      obtain ⟨k0, k1, k2, k3⟩ := id hat
      go_wp2_with fail
      clear k0 k1 k2 k3
      go_loopw [8] (fun v wr => ∃ j : Nat, v = .int .i64 j ∧ lo ≤ j ∧ j ≤ hi ∧ (∀ i, lo ≤ i → i < j → Ro.cond ⟨w, lo, hi, m⟩ ((toL D).drop k) i = false) ∧ (j = lo ∨ k + j ≤ D.size) ∧ Dr wo wr) (fun v _ => hi - (intOf v).toNat)
      case atStart => exact ⟨lo, rfl, Nat.le_refl _, a4, fun i h1 h2 => by omega, .inl rfl, Dr.refl _⟩
      case round =>
        obtain ⟨j, rfl, hj1, hj2, hno, hj3, hdr⟩ := hrel
        have HNO := Lib.hid hno
        clear hno
        have hat1 := hat.dr hdr
        have hr1 := hr.dr hdr
        have hbw1 := below_dr hbw hdr
        have hbs1 : W.heap.size + 1 ≤ wr.heap.size := by rw [hdr.size]; exact hbs
        obtain ⟨k0, k1, k2, k3⟩ := id hat1
        obtain ⟨s, hs⟩ : ∃ s, s = k + j := ⟨_, rfl⟩
        have es : (k : Int) + (j : Int) = (s : Int) := by omega
        have ws : IntKind.i64.wrap (s : Int) = (s : Int) := IntWalk.i64_in _ (by omega)
        have hRl : ((toL D).drop k).length = D.size - k := by rw [List.length_drop, toL_length]
        have HS := Lib.hid hs
        have HR := Lib.hid hRl
        have hjk : j ≤ 65536 := by omega
        have hsk : s ≤ D.size + 65536 := by omega
        clear hRl
        by_cases ha : s < D.size
        · have t1 : (s : Int) < (D.size : Int) := by omega
          by_cases hb : j < hi
          · have t2 : (j : Int) < (hi : Int) := by omega
            obtain ⟨t, ht⟩ : ∃ t, t = s - w := ⟨_, rfl⟩
            have et : (s : Int) - (w : Int) = (t : Int) := by omega
            have wt : IntKind.i64.wrap (t : Int) = (t : Int) := IntWalk.i64_in _ (by omega)
            have q0 : (0 : Int) ≤ (t : Int) := by omega
            have q1 : (t : Int) ≤ (s : Int) := by omega
            have q2 : (s : Int) ≤ (D.size : Int) := by omega
            have hext : toL (D.extract t s) = Ro.win ((toL D).drop k) w j := by rw [toL_extract, win_drop _ _ _ _ (by omega), ← hs, ht]
            have hzs : (D.extract t s).size ≤ 9223372036854775807 := by rw [← toL_length, toL_extract]; simp [toL_length]; omega
            have hsum : ∀ wr, Calls Try.prog 16 #[.string (D.extract t s)] wr fun e w' => e = .returned (.int .u32 (Ro.S (Ro.win ((toL D).drop k) w j) : Nat)) ∧ wr = w' := fun wr => by
              have := rsum_any (D.extract t s) wr hzs
              rw [show (D.extract t s).data.toList = toL (D.extract t s) from rfl, hext] at this
              exact this
            have hS := Ro.S_lt (Ro.win ((toL D).drop k) w j)
            have HCo : Hid (Ro.cond ⟨w, lo, hi, m⟩ ((toL D).drop k) j = (Ro.S (Ro.win ((toL D).drop k) w j) &&& m == m)) := Lib.hid rfl
            have eA := u32_and_nat (Ro.S (Ro.win ((toL D).drop k) w j)) m hS hm
            generalize Ro.S (Ro.win ((toL D).drop k) w j) = s1 at *
            obtain ⟨x, hx⟩ : ∃ x, x = s1 &&& m := ⟨_, rfl⟩
            rw [← hx] at eA HCo
            clear hx hS ht hext hzs
            by_cases hx : x = m
            · have b1 : ((x : Int) == (m : Int)) = true := by rw [hx]; simp
              have b2 : ((x : Int) != (m : Int)) = false := by rw [bne, b1]; rfl
              have HE : Hid (Ro.one ⟨w, lo, hi, m⟩ ((toL D).drop k) = j) := Lib.hid (by
                rw [one_stop ⟨w, lo, hi, m⟩ HC.out _ j hj1 hj2 HNO.out (by rw [HR.out]; simp only; omega) (.inr ⟨by rw [HR.out]; omega, .inr (by rw [HCo.out, hx]; simp)⟩), HR.out]; omega)
              clear hx hs
              go_wp2_with fail
              go_quiet ((go_at_call 16; exact quietA (hsum _)))
              go_wp2_with (at_builtin; go_must (refine app_text rfl (.tmp 63) (.tmp 70) rfl (W.heap.size + 1) A acc.length cap acc rfl ((hr1.dr ⟨_, rfl⟩).alloc _) (wr).heap.size (D.extract k s) 1 rfl (own1 _ _ _) (by omega) ?c3 ((wr).heap.size + 1) ?c4 ?_); go_must (case c3 => (simp; omega)); go_must (case c4 => simp); intro g cx w3 hp3 hg3 hor3 hbw3)
              go_roundw
              case rel =>
                obtain ⟨n1, n2, n3⟩ := step_next ⟨w, lo, hi, m⟩ HC.out D k (j) (s) acc hl (HS.out) HE.out HX.out
                exact ⟨s, some ⟨g, 0, none⟩, cx, acc ++ [D.extract k s], by first | rfl | exact congrArg (Value.int .i64) (by omega), by simp, n3, by simpa using hp3, n1, by simp; omega, ((below_dr hbw1 ⟨_, rfl⟩).alloc (by simpa using hbw1.size) _).trans (hbw3.mono (by omega)), ((hat1.dr ⟨_, rfl⟩).below (grow _ _)).belowB hbw3 (by omega), by have := hbw3.size; simp at this; omega⟩
              case measure =>
                obtain ⟨n1, n2, n3⟩ := step_next ⟨w, lo, hi, m⟩ HC.out D k (j) (s) acc hl (HS.out) HE.out HX.out
                simp [intOf]; omega
            · have b1 : ((x : Int) == (m : Int)) = false := by rw [beq_eq_false_iff_ne]; omega
              have b2 : ((x : Int) != (m : Int)) = true := by rw [bne, b1]; rfl
              have HN2 : Hid (∀ i, lo ≤ i → i < j + 1 → Ro.cond ⟨w, lo, hi, m⟩ ((toL D).drop k) i = false) := Lib.hid (fun i h1 h2 => by
                rcases Nat.lt_or_ge i j with h3 | h3
                · exact HNO.out i h1 h3
                · obtain rfl : i = j := by omega
                  rw [HCo.out, beq_eq_false_iff_ne]; exact hx)
              clear hx hs
              go_wp2_with fail
              go_quiet ((go_at_call 16; exact quietA (hsum _)))
              go_wp2_with fail
              go_roundw
              case rel => exact ⟨j + 1, by go_num, by omega, by omega, HN2.out, .inr (by have := HS.out; omega), hdr.drewN _⟩
              case measure => simp [intOf]; omega
          · have t2 : decide ((j : Int) < (hi : Int)) = false := by rw [decide_eq_false_iff_not]; omega
            have HE : Hid (Ro.one ⟨w, lo, hi, m⟩ ((toL D).drop k) = j) := Lib.hid (by
                rw [one_stop ⟨w, lo, hi, m⟩ HC.out _ j hj1 hj2 HNO.out (by rw [HR.out]; simp only; omega) (.inr ⟨by rw [HR.out]; omega, .inl (by simp only; omega)⟩), HR.out]; omega)
            clear hs
            go_wp2_with fail
            go_quiet ((go_at_call 16; exact quietA (hsum _)))
            go_wp2_with (at_builtin; go_must (refine app_text rfl (.tmp 63) (.tmp 70) rfl (W.heap.size + 1) A acc.length cap acc rfl ((hr1.dr ⟨_, rfl⟩).alloc _) (wr).heap.size (D.extract k s) 1 rfl (own1 _ _ _) (by omega) ?c3 ((wr).heap.size + 1) ?c4 ?_); go_must (case c3 => (simp; omega)); go_must (case c4 => simp); intro g cx w3 hp3 hg3 hor3 hbw3)
            go_roundw
            case rel =>
              obtain ⟨n1, n2, n3⟩ := step_next ⟨w, lo, hi, m⟩ HC.out D k (j) (s) acc hl (HS.out) HE.out HX.out
              exact ⟨s, some ⟨g, 0, none⟩, cx, acc ++ [D.extract k s], by first | rfl | exact congrArg (Value.int .i64) (by omega), by simp, n3, by simpa using hp3, n1, by simp; omega, ((below_dr hbw1 ⟨_, rfl⟩).alloc (by simpa using hbw1.size) _).trans (hbw3.mono (by omega)), ((hat1.dr ⟨_, rfl⟩).below (grow _ _)).belowB hbw3 (by omega), by have := hbw3.size; simp at this; omega⟩
            case measure =>
              obtain ⟨n1, n2, n3⟩ := step_next ⟨w, lo, hi, m⟩ HC.out D k (j) (s) acc hl (HS.out) HE.out HX.out
              simp [intOf]; omega
        · have t1 : decide ((s : Int) < (D.size : Int)) = false := by rw [decide_eq_false_iff_not]; omega
          have HE : Hid (Ro.one ⟨w, lo, hi, m⟩ ((toL D).drop k) = D.size - k) := Lib.hid (by
                rw [one_stop ⟨w, lo, hi, m⟩ HC.out _ j hj1 hj2 HNO.out (by rw [HR.out]; simp only; omega) (.inl (by rw [HR.out]; omega)), HR.out]; omega)
          by_cases hov : D.size < s
          · clear hs
            go_wp2_with fail
            go_quiet ((go_at_call 16; exact quietA (hsum _)))
            go_wp2_with (at_builtin; go_must (refine app_text rfl (.tmp 63) (.tmp 70) rfl (W.heap.size + 1) A acc.length cap acc rfl ((hr1.dr ⟨_, rfl⟩).alloc _) (wr).heap.size (D.extract k D.size) 1 rfl (own1 _ _ _) (by omega) ?c3 ((wr).heap.size + 1) ?c4 ?_); go_must (case c3 => (simp; omega)); go_must (case c4 => simp); intro g cx w3 hp3 hg3 hor3 hbw3)
            go_roundw
            case rel =>
              obtain ⟨n1, n2, n3⟩ := step_next ⟨w, lo, hi, m⟩ HC.out D k (D.size - k) (D.size) acc hl (by omega) HE.out HX.out
              exact ⟨D.size, some ⟨g, 0, none⟩, cx, acc ++ [D.extract k D.size], by first | rfl | exact congrArg (Value.int .i64) (by omega), by simp, n3, by simpa using hp3, n1, by simp; omega, ((below_dr hbw1 ⟨_, rfl⟩).alloc (by simpa using hbw1.size) _).trans (hbw3.mono (by omega)), ((hat1.dr ⟨_, rfl⟩).below (grow _ _)).belowB hbw3 (by omega), by have := hbw3.size; simp at this; omega⟩
            case measure =>
              obtain ⟨n1, n2, n3⟩ := step_next ⟨w, lo, hi, m⟩ HC.out D k (D.size - k) (D.size) acc hl (by omega) HE.out HX.out
              simp [intOf]; omega
          · have hsz : s = D.size := by omega
            clear hs
            go_wp2_with fail
            go_quiet ((go_at_call 16; exact quietA (hsum _)))
            go_wp2_with (at_builtin; go_must (refine app_text rfl (.tmp 63) (.tmp 70) rfl (W.heap.size + 1) A acc.length cap acc rfl ((hr1.dr ⟨_, rfl⟩).alloc _) (wr).heap.size (D.extract k D.size) 1 rfl (own1 _ _ _) (by omega) ?c3 ((wr).heap.size + 1) ?c4 ?_); go_must (case c3 => (simp; omega)); go_must (case c4 => simp); intro g cx w3 hp3 hg3 hor3 hbw3)
            go_roundw
            case rel =>
              obtain ⟨n1, n2, n3⟩ := step_next ⟨w, lo, hi, m⟩ HC.out D k (D.size - k) (D.size) acc hl (by omega) HE.out HX.out
              exact ⟨D.size, some ⟨g, 0, none⟩, cx, acc ++ [D.extract k D.size], by first | rfl | exact congrArg (Value.int .i64) (by omega), by simp, n3, by simpa using hp3, n1, by simp; omega, ((below_dr hbw1 ⟨_, rfl⟩).alloc (by simpa using hbw1.size) _).trans (hbw3.mono (by omega)), ((hat1.dr ⟨_, rfl⟩).below (grow _ _)).belowB hbw3 (by omega), by have := hbw3.size; simp at this; omega⟩
            case measure =>
              obtain ⟨n1, n2, n3⟩ := step_next ⟨w, lo, hi, m⟩ HC.out D k (D.size - k) (D.size) acc hl (by omega) HE.out HX.out
              simp [intOf]; omega
    · obtain rfl : D.size = k := by omega
      go_wp2_with fail
      go_ret2
      exact ⟨A, cap, acc, rfl, hr.ts, by rw [← HX.out, List.drop_eq_nil_of_le (by rw [toL_length]; exact Nat.le_refl _), Ro.cut_nil, List.append_nil], hbw, rs_cap hr⟩
end Go.Proofs.Ytingpadjciohjaa
