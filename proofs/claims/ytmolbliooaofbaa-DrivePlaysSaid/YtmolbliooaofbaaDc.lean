/-
  THE WALKS of the document's Check and Get, of Same, and of whether a drive is more than is gone through.
-/
import Derived.Test.YtmolbliooaofbaaDb
import Derived.Test.YtmolbliooaofbaaIt
import Derived.BigQuiet
namespace Go.Proofs.Ytmolbliooaofbaa
set_option linter.unusedVariables false
set_option maxRecDepth 100000
set_option linter.unusedSimpArgs false
open Go.RowKit
namespace Dw
open _root_.Go.Proofs.Ytmolbliooaofbaa.Nm
open Dm (Wr wnth)
theorem Bd.drewN {w wr : World} {cs : Array Value} (h : Bd w cs wr) (k : Nat) : Bd w cs (wr.drewN k) := ⟨h.o, below_dr h.b ⟨k, rfl⟩⟩
set_option maxHeartbeats 1000000 in
theorem rcheck_any (A : Option Addr) (n c : Nat) (A' : Option Addr) (m c' : Nat) (d : Dm.Dr) (w : World) (h : Dz w A n c A' m c' d) :
    Calls Try.prog 14 #[.agg (dv A n c A' m c' d.left)] w fun e w' => e = .returned (.int .i64 (Dm.chkM d)) ∧ Below w.heap.size w w' := by
  have ob := Bd.new w (dv A n c A' m c' d.left)
  have H0 := Lib.hid h
  have hn : d.B.length = n := h.b.t.1
  have hm := h.b.m
  have hpm := h.p.m
  have hpn : d.P.length = m := h.p.len
  generalize d.left = L at *
  by_cases g1 : 256 < n
  · rw [chk_len (by omega)]
    have g1' : (256 : Int) < (n : Int) := by omega
    go_enter Try.func14, Try.ntmps14
    go_wp2_with fail
    go_ret
    exact ⟨rfl, ob.b⟩
  have g1' : ¬ (256 : Int) < (n : Int) := by omega
  clear h
  go_enter Try.func14, Try.ntmps14
  go_wp2_with fail
  go_loop [3] (fun i => ∃ k : Nat, k ≤ n ∧ i = .int .i64 k ∧ ∀ j, j < k → (nth d.B j).size = 128) (fun i => n - (intOf i).toNat)
  case atStart => exact ⟨0, Nat.zero_le _, rfl, fun j hj => absurd hj (Nat.not_lt_zero _)⟩
  case round =>
    obtain ⟨k, hk, rfl, hj⟩ := hrel
    have d0 := ob.o.cell 0
    simp only [List.getElem?_toArray, List.getElem?_cons_zero, List.getElem?_cons_succ] at d0
    by_cases hlt : k < n
    · have ht := (H0.out.b.below ob.b).t
      obtain ⟨b, off, rfl, hc⟩ := ht.2 (by omega)
      have c1 := hc k hlt
      have hlt' : (k : Int) < (n : Int) := by omega
      clear hc
      by_cases hs : (nth d.B k).size = 128
      · have HS := Lib.hid hs
        have hs' : ((nth d.B k).size : Int) = 128 := by omega
        have HJ := Lib.hid hj
        clear hs hj
        go_wp2_with fail
        go_round
        case rel => 
          refine ⟨k + 1, by omega, by go_num, fun j hj => ?_⟩
          by_cases e : j = k
          · rw [e]; exact HS.out
          · exact HJ.out j (by omega)
        case measure => simp [intOf]; omega
      · have hs' : ¬ ((nth d.B k).size : Int) = 128 := by omega
        have HR := Lib.hid (chk_form (d := d) (k := k) (by omega) (by omega) hs)
        clear hs hj
        go_wp2_with fail
        go_ret
        exact ⟨by rw [HR.out] <;> rfl, ob.b⟩
    · obtain rfl : k = n := by omega
      have HR := Lib.hid (chk_rest (d := d) (by omega) (fun j q => hj j (by omega)))
      clear hj
      go_wp2_with fail
      go_loopw [4] (fun i wr => ∃ q : Nat, q ≤ m ∧ i = .int .i64 q ∧ Bd w (dv A k c A' m c' L) wr ∧ Dm.chkP k d.P = Dm.chkP k (d.P.drop q)) (fun i _ => m - (intOf i).toNat)
      case atStart => exact ⟨0, Nat.zero_le _, rfl, ob, rfl⟩
      case round =>
        obtain ⟨q, hq, rfl, ob2, hP⟩ := hrel
        have d0 := ob2.o.cell 0
        have d1 := ob2.o.cell 1
        simp only [List.getElem?_toArray, List.getElem?_cons_zero, List.getElem?_cons_succ] at d0 d1
        by_cases hlq : q < m
        · have hpz := H0.out.p.below ob2.b
          obtain ⟨b, off, rfl, hc⟩ := hpz.c (by omega)
          obtain ⟨c1, c2⟩ := hc q (by omega)
          have hst := hP.trans (chkP_at (n := k) (P := d.P) (k := q) (by omega))
          have HST := Lib.hid hst
          have hlq' : (q : Int) < (m : Int) := by omega
          clear hc hst hP hpz
          generalize wnth d.P q = x at *
          obtain ⟨xi, xs⟩ := x
          dsimp only at *
          by_cases g2 : 0 ≤ xi ∧ xi < (k : Int)
          · have t0 : decide (xi < 0) = false := decide_eq_false (by omega)
            have t1 : decide ((k : Int) ≤ xi) = false := decide_eq_false (by omega)
            by_cases g3 : xs.size = 128
            · have g3' : (xs.size : Int) = 128 := by omega
              have HP := Lib.hid (HST.out.trans ((if_pos g2).trans (if_pos g3)))
              clear g2 g3
              go_wp2_with fail
              go_quiet (fail)
              go_wp2_with fail
              go_roundw
              case rel => exact ⟨q + 1, by omega, by go_num, ob2.drewN _, HP.out⟩
              case measure => simp [intOf]; omega
            · have g3' : ¬ (xs.size : Int) = 128 := by omega
              have HP := Lib.hid (HST.out.trans ((if_pos g2).trans (if_neg g3)))
              clear g2 g3
              go_wp2_with fail
              go_quiet (fail)
              go_wp2_with fail
              go_ret
              exact ⟨by rw [HR.out, hn, HP.out] <;> rfl, (ob2.drewN _).b⟩
          · have HP := Lib.hid (HST.out.trans (if_neg g2))
            by_cases t : xi < 0
            · have t0 : decide (xi < 0) = true := decide_eq_true t
              clear g2 t
              go_wp2_with fail
              go_quiet (fail)
              go_wp2_with fail
              go_ret
              exact ⟨by rw [HR.out, hn, HP.out] <;> rfl, (ob2.drewN _).b⟩
            · have t0 : decide (xi < 0) = false := decide_eq_false t
              have t1 : decide ((k : Int) ≤ xi) = true := decide_eq_true (by omega)
              clear g2 t
              go_wp2_with fail
              go_quiet (fail)
              go_wp2_with fail
              go_ret
              exact ⟨by rw [HR.out, hn, HP.out] <;> rfl, (ob2.drewN _).b⟩
        · obtain rfl : q = m := by omega
          have HP := Lib.hid hP
          clear hP
          go_wp2_with fail
          go_ret
          exact ⟨by rw [HR.out, hn, HP.out, List.drop_of_length_le (by omega)]; rfl, ob2.b⟩
theorem get_take1 {B : List ByteArray} {P : List Wr} {k q : Nat} (h : q < P.length) : Dm.getM B (P.take (q + 1)) k = if (wnth P q).1 = (k : Int) then (wnth P q).2 else Dm.getM B (P.take q) k := by
  rw [Dm.take_wnth h, Dm.get_app]
set_option maxHeartbeats 1000000 in
theorem rget_any (A : Option Addr) (n c : Nat) (A' : Option Addr) (m c' : Nat) (d : Dm.Dr) (i : Int) (w : World) (h : Dz w A n c A' m c' d) :
    Calls Try.prog 23 #[.agg (dv A n c A' m c' d.left), .int .i64 i] w fun e w' => GetIs d i e ∧ Below w.heap.size w w' := by
  have ob := Bd.new w (dv A n c A' m c' d.left)
  have H0 := Lib.hid h
  have hn : d.B.length = n := h.b.t.1
  have hm := h.b.m
  have hpm := h.p.m
  have hpn : d.P.length = m := h.p.len
  generalize d.left = L at *
  have d0 := ob.o.cell 0
  simp only [List.getElem?_toArray, List.getElem?_cons_zero, List.getElem?_cons_succ] at d0
  clear h
  by_cases hi : 0 ≤ i ∧ i < (n : Int)
  · obtain ⟨k, rfl⟩ := Int.eq_ofNat_of_zero_le hi.1
    have hk : k < n := by omega
    have t1 : ¬ ((n : Int) ≤ (k : Int)) := by omega
    have t2 : (k : Int) < (n : Int) := by omega
    obtain ⟨b, off, rfl, hc⟩ := (H0.out.b.below ob.b).t.2 (by omega)
    have c1 := hc k hk
    clear hi hc
    go_enter Try.func23, Try.ntmps23
    go_wp2_with fail
    go_loopw [6, 7] (fun s i wr => ∃ q : Nat, q ≤ m ∧ i = .int .i64 q ∧ s = .string (Dm.getM d.B (d.P.take q) k) ∧ Bd w (dv (some ⟨b, off, none⟩) n c A' m c' L) wr) (fun _ i _ => m - (intOf i).toNat)
    case atStart => exact ⟨0, Nat.zero_le _, rfl, rfl, ob⟩
    case round =>
      obtain ⟨q, hq, rfl, rfl, ob2⟩ := hrel
      have d0 := ob2.o.cell 0
      have d1 := ob2.o.cell 1
      simp only [List.getElem?_toArray, List.getElem?_cons_zero, List.getElem?_cons_succ] at d0 d1
      by_cases hlq : q < m
      · have hpz := H0.out.p.below ob2.b
        obtain ⟨b', off', rfl, hc⟩ := hpz.c (by omega)
        obtain ⟨c1, c2⟩ := hc q (by omega)
        have hlq' : (q : Int) < (m : Int) := by omega
        have HT := Lib.hid (get_take1 (B := d.B) (P := d.P) (k := k) (q := q) (by omega))
        clear hc hpz
        generalize wnth d.P q = x at *
        obtain ⟨xi, xs⟩ := x
        dsimp only at *
        by_cases g : xi = (k : Int)
        · have HG := Lib.hid (HT.out.trans (if_pos g))
          have g' : (xi == (k : Int)) = true := by simp [g]
          have g'' := Lib.hid g
          clear g
          go_wp2_with fail
          go_roundw
          case rel => exact ⟨q + 1, by omega, by go_num, by rw [HG.out], ob2⟩
          case measure => simp [intOf]; omega
        · have HG := Lib.hid (HT.out.trans (if_neg g))
          go_wp2_with fail
          go_roundw
          case rel => exact ⟨q + 1, by omega, by go_num, by rw [HG.out], ob2⟩
          case measure => simp [intOf]; omega
      · obtain rfl : q = m := by omega
        have hz : d.P.take q = d.P := List.take_of_length_le (by omega)
        rw [hz]
        clear hz
        have HI := Lib.hid (GetIs.yes (d := d) (i := k) (by omega))
        go_wp2_with fail
        go_ret2
        exact ⟨HI.out, ob2.b⟩
  · have HI := Lib.hid (GetIs.no (d := d) (i := i) (by rw [hn]; exact hi))
    by_cases t : i < 0
    · go_enter Try.func23, Try.ntmps23
      go_wp2_with fail
      go_ret2
      exact ⟨HI.out, ob.b⟩
    · have t1 : (n : Int) ≤ i := by omega
      have t2 : 0 ≤ i := by omega
      clear t hi
      go_enter Try.func23, Try.ntmps23
      go_wp2_with fail
      go_ret2
      exact ⟨HI.out, ob.b⟩
/-- a drive that came in: of any size -/
structure Dy (w : World) (A : Option Addr) (n c : Nat) (A' : Option Addr) (m c' : Nat) (d : Dm.Dr) : Prop where
  b : Ts w A n d.B
  z : A = none → n = 0 ∧ c = 0
  n : n ≤ 9223372036854775807
  p : d.P.length = m
  q : 0 < m → ∃ b off, A' = some ⟨b, off, none⟩ ∧ Pl w b off d.P
  y : A' = none → m = 0 ∧ c' = 0
  m : m ≤ 9223372036854775807
  l : -9223372036854775808 ≤ d.left ∧ d.left ≤ 9223372036854775807
/-- not more than is gone through -/
structure Small (d : Dm.Dr) : Prop where
  n : d.B.length ≤ 260
  m : d.P.length ≤ 60
  b : ∀ j, j < d.B.length → (nth d.B j).size ≤ 1000
  p : ∀ j, j < d.P.length → (wnth d.P j).2.size ≤ 1000
theorem Dy.dz {w : World} {A : Option Addr} {n c : Nat} {A' : Option Addr} {m c' : Nat} {d : Dm.Dr} (h : Dy w A n c A' m c' d) (s : Small d) : Dz w A n c A' m c' d :=
  ⟨⟨h.b, h.z, by have := s.n; have := h.b.1; omega⟩, ⟨h.p, h.q, h.y, by have := s.m; have := h.p; omega⟩, h.l⟩
def GreatIs (d : Dm.Dr) (e : Ending) : Prop := e = .returned (.int .i64 1) ∨ e = .returned (.int .i64 0) ∧ Small d
set_option maxHeartbeats 1000000 in
theorem great_any (A : Option Addr) (n c : Nat) (A' : Option Addr) (m c' : Nat) (d : Dm.Dr) (w : World) (h : Dy w A n c A' m c' d) :
    Calls Try.prog 9 #[.agg (dv A n c A' m c' d.left)] w fun e w' => GreatIs d e ∧ Below w.heap.size w w' := by
  have ob := Bd.new w (dv A n c A' m c' d.left)
  have H0 := Lib.hid h
  have hn : d.B.length = n := h.b.1
  have hnn := h.n
  have hmm := h.m
  have hpn : d.P.length = m := h.p
  generalize d.left = L at *
  have d0 := ob.o.cell 0
  have d1 := ob.o.cell 1
  simp only [List.getElem?_toArray, List.getElem?_cons_zero, List.getElem?_cons_succ] at d0 d1
  clear h
  by_cases g1 : 260 < n
  · have g1' : (260 : Int) < (n : Int) := by omega
    go_enter Try.func9, Try.ntmps9
    go_wp2_with fail
    go_ret
    exact ⟨.inl rfl, ob.b⟩
  have g1' : ¬ (260 : Int) < (n : Int) := by omega
  by_cases g2 : 60 < m
  · have g2' : (60 : Int) < (m : Int) := by omega
    go_enter Try.func9, Try.ntmps9
    go_wp2_with fail
    go_ret
    exact ⟨.inl rfl, ob.b⟩
  have g2' : ¬ (60 : Int) < (m : Int) := by omega
  go_enter Try.func9, Try.ntmps9
  go_wp2_with fail
  go_loop [4, 20] (fun _ i => ∃ k : Nat, k ≤ n ∧ i = .int .i64 k ∧ ∀ j, j < k → (nth d.B j).size ≤ 1000) (fun _ i => n - (intOf i).toNat)
  case atStart => exact ⟨0, Nat.zero_le _, rfl, fun j hj => absurd hj (Nat.not_lt_zero _)⟩
  case round =>
    obtain ⟨k, hk, rfl, hj⟩ := hrel
    by_cases hlt : k < n
    · have ht : Ts (w.alloc (Obj.cells (dv A n c A' m c' L) 25)) A n d.B := H0.out.b.below ob.b
      obtain ⟨b, off, rfl, hc⟩ := ht.2 (by omega)
      have c1 := hc k hlt
      clear hc ht
      by_cases hs : (nth d.B k).size ≤ 1000
      · have HS := Lib.hid hs
        have hs' : ¬ (1000 : Int) < ((nth d.B k).size : Int) := by omega
        have HJ := Lib.hid hj
        clear hs hj
        go_wp2_with fail
        go_round
        case rel => 
          refine ⟨k + 1, by omega, by go_num, fun j hj => ?_⟩
          by_cases e : j = k
          · rw [e]; exact HS.out
          · exact HJ.out j (by omega)
        case measure => simp [intOf]; omega
      · have hs' : (1000 : Int) < ((nth d.B k).size : Int) := by omega
        clear hs hj
        go_wp2_with fail
        go_ret
        exact ⟨.inl rfl, ob.b⟩
    · obtain rfl : k = n := by omega
      have HB := Lib.hid hj
      clear hj
      go_wp2_with fail
      go_loopw [6, 31] (fun _ i wr => ∃ q : Nat, q ≤ m ∧ i = .int .i64 q ∧ Bd w (dv A k c A' m c' L) wr ∧ ∀ j, j < q → (wnth d.P j).2.size ≤ 1000) (fun _ i _ => m - (intOf i).toNat)
      case atStart => exact ⟨0, Nat.zero_le _, rfl, ob, fun j hj => absurd hj (Nat.not_lt_zero _)⟩
      case round =>
        obtain ⟨q, hq, rfl, ob2, hP⟩ := hrel
        by_cases hlq : q < m
        · obtain ⟨b, off, rfl, hc⟩ := H0.out.q (by omega)
          obtain ⟨c1, c2⟩ := (hc.below ob2.b) q (by omega)
          have ob3 := ob2.alloc (Obj.cells #[.int .i64 (wnth d.P q).1, .string (wnth d.P q).2] 47)
          have HP := Lib.hid hP
          clear hc hP
          by_cases hs : (wnth d.P q).2.size ≤ 1000
          · have HS := Lib.hid hs
            have hs' : ¬ (1000 : Int) < ((wnth d.P q).2.size : Int) := by omega
            clear hs
            go_wp2_with fail
            go_roundw
            case rel => 
              refine ⟨q + 1, by omega, by go_num, ob3, fun j hj => ?_⟩
              by_cases e : j = q
              · rw [e]; exact HS.out
              · exact HP.out j (by omega)
            case measure => simp [intOf]; omega
          · have hs' : (1000 : Int) < ((wnth d.P q).2.size : Int) := by omega
            clear hs
            go_wp2_with fail
            go_ret
            exact ⟨.inl rfl, ob3.b⟩
        · obtain rfl : q = m := by omega
          have HP := Lib.hid hP
          clear hP
          go_wp2_with fail
          go_ret
          exact ⟨.inr ⟨rfl, by omega, by omega, by rw [hn]; exact HB.out, by rw [hpn]; exact HP.out⟩, ob2.b⟩
end Dw
end Go.Proofs.Ytmolbliooaofbaa
