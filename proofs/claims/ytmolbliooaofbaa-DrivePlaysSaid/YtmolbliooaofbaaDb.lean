/-
  THE WALKS of what tells why a drive may not be: the code's, the document's; whether it is more than is gone through.
-/
import Derived.Test.YtmolbliooaofbaaDa
import Derived.LoopIn
namespace Go.Proofs.Ytmolbliooaofbaa
set_option linter.unusedVariables false
set_option maxRecDepth 100000
set_option linter.unusedSimpArgs false
open Go.RowKit
namespace Dw
open _root_.Go.Proofs.Ytmolbliooaofbaa.Nm
open Dm (Wr wnth)
theorem chk_len {d : Dm.Dr} (h : 256 < d.B.length) : Dm.chkM d = 6 := if_pos h
theorem chk_form {d : Dm.Dr} {k : Nat} (h : ¬ 256 < d.B.length) (hk : k < d.B.length) (hs : (nth d.B k).size ≠ 128) : Dm.chkM d = 3 := by
  unfold Dm.chkM
  rw [if_neg h, if_neg (fun q => hs (q _ (Dm.nth_mem hk)))]
theorem chk_rest {d : Dm.Dr} (h : ¬ 256 < d.B.length) (hs : ∀ j, j < d.B.length → (nth d.B j).size = 128) : Dm.chkM d = Dm.chkP d.B.length d.P := by
  unfold Dm.chkM
  rw [if_neg h, if_pos]
  intro t ht
  obtain ⟨k, hk, rfl⟩ := Dm.mem_nth ht
  exact hs k hk
theorem drop_wnth {P : List Wr} {k : Nat} (h : k < P.length) : P.drop k = wnth P k :: P.drop (k + 1) := by
  rw [List.drop_eq_getElem_cons h]
  congr 1
  have := wget h
  rw [List.getElem?_eq_getElem h] at this
  exact Option.some.inj this
theorem chkP_at {n : Nat} {P : List Wr} {k : Nat} (h : k < P.length) : Dm.chkP n (P.drop k) = if 0 ≤ (wnth P k).1 ∧ (wnth P k).1 < (n : Int) then (if (wnth P k).2.size = 128 then Dm.chkP n (P.drop (k + 1)) else 3) else 2 := by
  rw [drop_wnth h]; rfl
/-- the drive's box, and that all below is as it was -/
structure Bd (w : World) (cs : Array Value) (wr : World) : Prop where
  o : Own wr w.heap.size 25 cs
  b : Below w.heap.size w wr
theorem Bd.new (w : World) (cs : Array Value) : Bd w cs (w.alloc (Obj.cells cs 25)) := ⟨Own.new w 25 cs, grow w _⟩
theorem Bd.lt {w wr : World} {cs : Array Value} (h : Bd w cs wr) : w.heap.size < wr.heap.size := h.o.lt
theorem Bd.below {w wr w1 : World} {cs : Array Value} (h : Bd w cs wr) (hx : Below wr.heap.size wr w1) : Bd w cs w1 := ⟨h.o.below hx, h.b.trans (hx.mono h.b.size)⟩
theorem Bd.alloc {w wr : World} {cs : Array Value} (h : Bd w cs wr) (o : Obj) : Bd w cs (wr.alloc o) := h.below (grow wr o)
set_option maxHeartbeats 1000000 in
theorem check_any (A : Option Addr) (n c : Nat) (A' : Option Addr) (m c' : Nat) (d : Dm.Dr) (w : World) (h : Dz w A n c A' m c' d) :
    Calls Try.prog 13 #[.agg (dv A n c A' m c' d.left)] w fun e w' => e = .returned (.int .i64 (Dm.chkM d)) ∧ Below w.heap.size w w' := by
  have ob := Bd.new w (dv A n c A' m c' d.left)
  have H0 := Lib.hid h
  have hn : d.B.length = n := h.b.t.1
  have hm := h.b.m
  have hpm := h.p.m
  have hpn : d.P.length = m := h.p.len
  generalize d.left = L at *
  by_cases g1 : 256 < n
  · rw [chk_len (by omega)]
    have g1' : (256 : Int) < (n : Int) := by omega
    go_enter Try.func13, Try.ntmps13
    go_wp2_with fail
    go_ret
    exact ⟨rfl, ob.b⟩
  have g1' : ¬ (256 : Int) < (n : Int) := by omega
  have d1 := ob.o.cell 1
  simp only [List.getElem?_toArray, List.getElem?_cons_zero, List.getElem?_cons_succ] at d1
  have D1 := Lib.hid d1
  clear d1 h
  go_enter Try.func13, Try.ntmps13
  go_wp2_with fail
  go_loop [4, 14] (fun _ i => ∃ k : Nat, k ≤ n ∧ i = .int .i64 k ∧ ∀ j, j < k → (nth d.B j).size = 128) (fun _ i => n - (intOf i).toNat)
  case atStart => exact ⟨0, Nat.zero_le _, rfl, fun j hj => absurd hj (Nat.not_lt_zero _)⟩
  case round =>
    obtain ⟨k, hk, rfl, hj⟩ := hrel
    by_cases hlt : k < n
    · have ht := (H0.out.b.below ob.b).t
      obtain ⟨b, off, rfl, hc⟩ := ht.2 (by omega)
      have c1 := hc k hlt
      clear hc
      by_cases hs : (nth d.B k).size = 128
      · have HS := Lib.hid hs
        have hs' : ((nth d.B k).size : Int) = 128 := by omega
        have HJ := Lib.hid hj
        clear hs hj
        go_wp2_with fail
        go_round
        case rel => 
          refine ⟨k + 1, by omega, by go_num, fun j hj => ?_⟩
          by_cases e : j = k
          · rw [e]; exact HS.out
          · exact HJ.out j (by omega)
        case measure => simp [intOf]; omega
      · have hs' : ¬ ((nth d.B k).size : Int) = 128 := by omega
        have HR := Lib.hid (chk_form (d := d) (k := k) (by omega) (by omega) hs)
        clear hs hj
        go_wp2_with fail
        go_ret
        exact ⟨by rw [HR.out] <;> rfl, ob.b⟩
    · obtain rfl : k = n := by omega
      have HR := Lib.hid (chk_rest (d := d) (by omega) (fun j q => hj j (by omega)))
      clear hj
      have d1 := D1.out
      go_wp2_with fail
      go_loopw [6, 25] (fun _ i wr => ∃ q : Nat, q ≤ m ∧ i = .int .i64 q ∧ Bd w (dv A k c A' m c' L) wr ∧ Dm.chkP k d.P = Dm.chkP k (d.P.drop q)) (fun _ i _ => m - (intOf i).toNat)
      case atStart => exact ⟨0, Nat.zero_le _, rfl, ob, rfl⟩
      case round =>
        obtain ⟨q, hq, rfl, ob2, hP⟩ := hrel
        by_cases hlq : q < m
        · have hpz := H0.out.p.below ob2.b
          obtain ⟨b, off, rfl, hc⟩ := hpz.c (by omega)
          obtain ⟨c1, c2⟩ := hc q (by omega)
          have ob3 := ob2.alloc (Obj.cells #[.int .i64 (wnth d.P q).1, .string (wnth d.P q).2] 47)
          have hst := hP.trans (chkP_at (n := k) (P := d.P) (k := q) (by omega))
          have HST := Lib.hid hst
          have o47 := Own.new wr 47 #[.int .i64 (wnth d.P q).1, .string (wnth d.P q).2]
          clear hc hst hP hpz
          generalize wnth d.P q = x at *
          obtain ⟨xi, xs⟩ := x
          dsimp only at *
          have hhas := fun wr => has_any A k c (some ⟨b, off, none⟩) m c' L xi wr
          go_wp2_with (refine ld25 rfl rfl rfl ob3.o ?_)
          refine (hhas _).mono ?_
          rintro e w2 ⟨rfl, hx2⟩
          have ob4 := ob3.below hx2
          have o48 := o47.below hx2
          have e0 := o48.cell 0
          have e1 := o48.cell 1
          simp only [List.getElem?_toArray, List.getElem?_cons_zero, List.getElem?_cons_succ] at e0 e1
          clear ob3 o47 hhas
          by_cases g2 : 0 ≤ xi ∧ xi < (k : Int)
          · rw [decide_eq_true g2]
            by_cases g3 : xs.size = 128
            · have g3' : (xs.size : Int) = 128 := by omega
              have HP := Lib.hid (HST.out.trans ((if_pos g2).trans (if_pos g3)))
              clear g2 g3
              go_wp2_with fail
              go_roundw
              case rel => exact ⟨q + 1, by omega, by go_num, ob4, HP.out⟩
              case measure => simp [intOf]; omega
            · have g3' : ¬ (xs.size : Int) = 128 := by omega
              have HP := Lib.hid (HST.out.trans ((if_pos g2).trans (if_neg g3)))
              clear g2 g3
              go_wp2_with fail
              go_ret
              exact ⟨by rw [HR.out, hn, HP.out] <;> rfl, ob4.b⟩
          · rw [decide_eq_false g2]
            have HP := Lib.hid (HST.out.trans (if_neg g2))
            clear g2
            go_wp2_with fail
            go_ret
            exact ⟨by rw [HR.out, hn, HP.out] <;> rfl, ob4.b⟩
        · obtain rfl : q = m := by omega
          have HP := Lib.hid hP
          clear hP
          go_wp2_with fail
          go_ret
          exact ⟨by rw [HR.out, hn, HP.out, List.drop_of_length_le (by omega)]; rfl, ob2.b⟩
end Dw
end Go.Proofs.Ytmolbliooaofbaa
