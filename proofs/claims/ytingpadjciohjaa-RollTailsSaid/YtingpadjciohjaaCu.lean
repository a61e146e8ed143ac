/-
  THE WALK of the code's Cut.
-/
import Derived.Test.YtingpadjciohjaaEd
namespace Go.Proofs.Ytingpadjciohjaa
open Go.RowKit
open Nm
set_option linter.unusedVariables false
set_option linter.unusedSimpArgs false
theorem At.belowB {B : Nat} {W V : World} {g : Nat} {w lo hi : Int} {m : Nat} (h : At W g w lo hi m) (hb : Below B W V) (k : g < B) : At V g w lo hi m := by
  obtain ⟨a, b, c, d⟩ := h
  exact ⟨(hb.cell (p := ⟨g, 0, none⟩) k).trans a, (hb.cell (p := ⟨g, 1, none⟩) k).trans b, (hb.cell (p := ⟨g, 2, none⟩) k).trans c, (hb.cell (p := ⟨g, 3, none⟩) k).trans d⟩
def CutPost (D : ByteArray) (c : Ro.Cuts) (w : World) (e : Ending) (w' : World) : Prop :=
  ∃ A cap l, e = .returned (.tuple #[.slice A l.length cap, .int .i64 0]) ∧ Ts w' A l.length l ∧ l.map toL = Ro.cut c (toL D) ∧ Below w.heap.size w w' ∧ l.length ≤ cap
theorem rs_cap {w : World} {B : Nat} {A : Option Addr} {n cap : Nat} {l : List ByteArray} (h : RS w B A n cap l) : n ≤ cap := by
  rcases h.2.2 with ⟨h1, h2⟩ | ⟨g, c, cur, h1, h2, h3, h4, _⟩
  · omega
  · injection h1 with _ h5 h6
    omega
def lenS : Value → Nat | .string s => s.size | _ => 0
set_option maxRecDepth 100000 in
set_option maxHeartbeats 1000000 in
theorem cut_no (D : ByteArray) (w lo hi : Int) (m : Nat) (W : World) (h : ¬ fitI w lo hi) :
    Calls Try.prog 10 #[.string D, .agg (cc w lo hi m)] W fun e W' => e = .returned (.tuple #[.slice none 0 0, .int .i64 2]) ∧ Below W.heap.size W W' := by
  have hk := fun wr => check_any w lo hi m wr
  rw [chk_no h] at hk
  obtain ⟨k0, k1, k2, k3⟩ := at_new W w lo hi m 24
  clear h
  go_enter Try.func10, Try.ntmps10
  go_wp2_with fail
  refine (hk _).mono ?_
  rintro e w1 ⟨rfl, hb⟩
  replace hb := (grow W _).trans (hb.mono (grow W _).size)
  go_wp2_with fail
  go_ret2
  exact ⟨rfl, hb⟩
set_option maxRecDepth 100000 in
set_option maxHeartbeats 2000000 in
theorem cut_any (D : ByteArray) (c : Ro.Cuts) (hc : c.Fit) (hm : c.mask < 4294967296) (hD : D.size ≤ 4000000000) (W : World) :
    Calls Try.prog 10 #[.string D, .agg (cc c.w c.lo c.hi c.mask)] W (CutPost D c W) := by
  have hk := fun wr => check_any c.w c.lo c.hi c.mask wr
  rw [chk_yes (by obtain ⟨h1, h2, h3, h4, h5⟩ := hc; unfold fitI; omega)] at hk
  have hend := fun (r : ByteArray) wr (h : r.size ≤ 9223372036854775807) => end_any r c hc hm h wr
  have hw64 : c.w ≤ 64 := hc.2.1
  have HC := Lib.hid hc
  have st := at_new W c.w c.lo c.hi c.mask 24
  have bW := grow W (Obj.cells (cc c.w c.lo c.hi c.mask) 24)
  obtain ⟨k0, k1, k2, k3⟩ := id st
  clear hc
  obtain ⟨w, lo, hi, m⟩ := c
  simp only at *
  go_enter Try.func10, Try.ntmps10
  go_wp2_with fail
  refine (hk _).mono ?_
  rintro e w1 ⟨rfl, hb⟩
  clear k0 k1 k2 k3
  replace st := st.below hb
  have bS : W.heap.size + 1 ≤ w1.heap.size := by have := hb.size; simp at this; omega
  replace bW := bW.trans (hb.mono bW.size)
  clear hb hk
  obtain ⟨k0, k1, k2, k3⟩ := id st
  go_wp2_with fail
  go_loop [7, 17] (fun p i => ∃ k : Nat, k ≤ w ∧ i = .int .i64 k ∧ p = .int .u32 (Ro.pw k : Nat)) (fun _ i => w - (intOf i).toNat)
  case atStart => exact ⟨0, Nat.zero_le _, rfl, rfl⟩
  case round =>
    obtain ⟨k, hkk, rfl, rfl⟩ := hrel
    by_cases hlt : k < w
    · have l0 : (k : Int) < (w : Int) := by omega
      have HP := Lib.hid (Ro.pw_succ k)
      have hp := Ro.pw_lt k
      generalize Ro.pw k = p at *
      go_wp2_with fail
      go_round
      case rel => exact ⟨k + 1, by omega, by go_num, by rw [HP.out]; congr 1⟩
      case measure => simp [intOf]; omega
    · obtain rfl : w = k := by omega
      have ST := Lib.hid st
      go_wp2_with fail
      clear k0 k1 k2 k3
      go_loopw [0, 8] (fun d v wr => ∃ r A cap acc, d = .string r ∧ v = .slice A acc.length cap ∧ RS wr (W.heap.size + 1) A acc.length cap acc ∧ acc.map toL ++ Ro.cut ⟨w, lo, hi, m⟩ (toL r) = Ro.cut ⟨w, lo, hi, m⟩ (toL D) ∧ r.size + acc.length ≤ D.size ∧ Below W.heap.size W wr ∧ At wr W.heap.size w lo hi m ∧ W.heap.size + 1 ≤ wr.heap.size) (fun d _ _ => lenS d)
      case atStart => exact ⟨D, none, 0, [], rfl, rfl, RS.nil _ _, by simp, by simp, bW, ST.out, bS⟩
      case round =>
        obtain ⟨r, A, cap, acc, rfl, rfl, hr, hx, hsz, hbw, hat, hbs⟩ := hrel
        clear ST bW bS
        by_cases hl : 0 < r.size
        · have hne : toL r ≠ [] := by intro h; have h1 := congrArg List.length h; rw [toL_length, List.length_nil] at h1; omega
          have hp := Ro.one_pos ⟨w, lo, hi, m⟩ HC.out (toL r) hne
          rw [toL_length] at hp
          have he := fun wr => hend r wr (by omega)
          have hcons := Ro.cut_cons ⟨w, lo, hi, m⟩ HC.out (toL r) hne
          change ∀ wr, Calls Try.prog 18 _ wr (fun e W' => e = .returned (.int .i64 (Ro.one ⟨w, lo, hi, m⟩ (toL r) : Nat)) ∧ _) at he
          generalize Ro.one ⟨w, lo, hi, m⟩ (toL r) = n at *
          have e1 : toL (r.extract 0 n) = (toL r).take n := by rw [toL_extract]; simp
          have e2 : toL (r.extract n r.size) = (toL r).drop n := by rw [toL_extract, List.take_of_length_le (by simp [toL_length])]
          have HQ : Hid ((acc ++ [r.extract 0 n]).map toL ++ Ro.cut ⟨w, lo, hi, m⟩ (toL (r.extract n r.size)) = Ro.cut ⟨w, lo, hi, m⟩ (toL D)) := Lib.hid (by rw [← hx, hcons, e2]; simp [e1])
          have SZ : Hid ((r.extract n r.size).size = r.size - n) := Lib.hid (by rw [← toL_length, e2, List.length_drop, toL_length])
          have b1 : n ≤ r.size := hp.2
          have b0 : (n : Int) ≤ (r.size : Int) := by omega
          have b2 : (0 : Int) < (r.size : Int) := by omega
          have b3 : 1 ≤ n := hp.1
          clear hx hcons e1 e2 hne hend hp
          obtain ⟨k0, k1, k2, k3⟩ := id hat
          go_wp2_with fail
          refine (he _).mono ?_
          rintro e w2 ⟨rfl, hb⟩
          clear k0 k1 k2 k3 he
          replace hr := hr.below hb
          replace hat := hat.below hb
          replace hbw := hbw.trans (hb.mono hbw.size)
          replace hbs : W.heap.size + 1 ≤ w2.heap.size := Nat.le_trans hbs hb.size
          clear hb
          go_wp2_with (at_builtin; go_must (refine app_text rfl (.tmp 29) (.tmp 33) rfl (W.heap.size + 1) A acc.length cap acc rfl (hr.alloc _) w2.heap.size (r.extract 0 n) 1 rfl (own1 _ _ _) (by omega) ?c3 (w2.heap.size + 1) ?c4 ?_); go_must (case c3 => (simp; omega)); go_must (case c4 => simp); intro g cx w3 hp3 hg3 hor3 hbw3)
          go_roundw
          case rel => exact ⟨_, some ⟨g, 0, none⟩, cx, acc ++ [r.extract 0 n], rfl, by simp, by simpa using hp3, HQ.out, by rw [SZ.out]; simp; omega, (hbw.alloc hbw.size _).trans (hbw3.mono (by omega)), (hat.below (grow _ _)).belowB hbw3 (by omega), by have := hbw3.size; simp at this; omega⟩
          case measure => simp [lenS, SZ.out]; omega
        · have hr0 : toL r = [] := List.eq_nil_of_length_eq_zero (by rw [toL_length]; omega)
          rw [hr0, Ro.cut_nil, List.append_nil] at hx
          have HX := Lib.hid hx
          clear hx hr0
          go_wp2_with fail
          go_ret2
          exact ⟨A, cap, acc, rfl, hr.ts, HX.out, hbw, rs_cap hr⟩
end Go.Proofs.Ytingpadjciohjaa
