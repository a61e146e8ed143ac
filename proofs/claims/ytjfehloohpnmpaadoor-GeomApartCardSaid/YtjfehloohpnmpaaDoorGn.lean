/-
  THE WALKS of what is asked of a volume: the next block is taken, how many are free.
-/
import Derived.Test.YtjfehloohpnmpaaDoorGl
namespace Go.Proofs.YtjfehloohpnmpaaDoor
set_option linter.unusedVariables false
set_option maxRecDepth 100000
set_option linter.unusedSimpArgs false
open Go.RowKit
namespace Dw
open _root_.Go.Proofs.YtjfehloohpnmpaaDoor.Nm
/-- the least that is free -/
def Nxt (T : List UInt8) (D b i : Nat) : Prop := D ≤ i ∧ i < b ∧ Gm.bit T i = false ∧ ∀ j, D ≤ j → j < i → Gm.bit T j = true
/-- none is free -/
def Ful (T : List UInt8) (D b : Nat) : Prop := ∀ j, D ≤ j → j < b → Gm.bit T j = true
/-- the volume in which a block is taken -/
def takeL (l : List ByteArray) (k : Nat) : List ByteArray := (l.set 2 (turnT (nth l 2) k)).set k (zs 128)
/-- what comes of taking a block -/
def TakeIs (l : List ByteArray) (B : Nat) (e : Ending) (w' : World) : Prop :=
  ((∀ b n, ¬ Vol l b n) ∧ e = .returned (.tuple #[.slice none 0 0, .int .i64 0, .int .i64 3])) ∨
  (∃ b n, Vol l b n ∧ Ful (toL (nth l 2)) (Gm.dat n) b ∧ e = .returned (.tuple #[.slice none 0 0, .int .i64 0, .int .i64 10])) ∨
  (∃ b n k A' c', Vol l b n ∧ Nxt (toL (nth l 2)) (Gm.dat n) b k ∧ e = .returned (.tuple #[.slice A' b c', .int .i64 ((k : Nat) : Int), .int .i64 0]) ∧ RS w' B A' b c' (takeL l k))
/-- how many of the first are free -/
def freeN (T : List UInt8) : Nat → Nat
  | 0 => 0
  | k + 1 => freeN T k + (if Gm.bit T k = true then 0 else 1)
theorem freeN_le (T : List UInt8) : ∀ k, freeN T k ≤ k
  | 0 => Nat.le_refl _
  | k + 1 => by
    have := freeN_le T k
    unfold freeN
    split <;> omega
theorem freeN_next (T : List UInt8) (k : Nat) : freeN T (k + 1) = freeN T k + (if Gm.bit T k = true then 0 else 1) := rfl
def RoomIs (l : List ByteArray) (e : Ending) : Prop := (∃ b n, Vol l b n ∧ e = .returned (.int .i64 (freeN (toL (nth l 2)) b : Nat))) ∨ ((∀ b n, ¬ Vol l b n) ∧ e = .returned (.int .i64 0))
theorem rep_z (k : Nat) : (⟨(Lib.repeatL [0] k).toArray⟩ : ByteArray) = zs k := by
  rw [rep_zero]; unfold zs; rw [List.toArray_replicate]
theorem rep_z128 (wr : World) : Calls Tryd.prog 27 #[.string ⟨#[0]⟩, .int .i64 128] wr fun e w' => e = .returned (.string (zs 128)) ∧ Below wr.heap.size wr w' := by
  have := Tryd.strings_Repeat ⟨#[0]⟩ 128 wr (by omega) (by decide)
  rw [show (⟨#[0]⟩ : ByteArray).data.toList = [0] from rfl, rep_z] at this
  exact this
set_option maxHeartbeats 2000000 in
theorem take_any (A : Option Addr) (m c : Nat) (l : List ByteArray) (w : World) (hl : Tz w A m c l) (hL : Lit l m) :
    Calls Tryd.prog 20 #[.slice A m c] w fun e w' => TakeIs l w.heap.size e w' ∧ Below w.heap.size w w' := by
  have hrep : ∀ wr, Calls Tryd.prog 27 #[.string ⟨#[0]⟩, .int .i64 128] wr fun e w' => e = .returned (.string (zs 128)) ∧ Below wr.heap.size wr w' := fun wr => rep_z128 wr
  go_enter Tryd.func20, Tryd.ntmps20
  go_wp2_with fail
  refine (of_any A m c l _ hl hL).mono ?_
  rintro e w1 ⟨ho, hx⟩
  rcases ho with ⟨b, n, hv, rfl⟩ | ⟨hn, rfl⟩
  · have HV := Lib.hid hv
    have hb2 := hx.trans ((grow w1 (Obj.cells gz 24)).mono hx.size)
    have og := Nm.Own.new w1 24 gz
    go_wp2_with (refine sto24 (cs := gc b n) rfl rfl rfl rfl og (gc_one _ _) gz_one ?_)
    intro w5 o5 s5
    have hb5 := s5.below hb2 hx.size
    clear hx hb2 og s5
    generalize w1.heap.size = g at *
    have hlen : l.length = m := hl.t.1
    obtain rfl : b = m := hv.len.symm.trans hlen
    have hlt := hv.lt
    have hf := hv.fits
    have hD : Gm.dat n < b := hf.2.2.2.2
    have hs2 := hv.blk 2 (by omega)
    have d0 : w5.cell? ⟨g, 0, none⟩ = some (.int .i64 (b : Int)) := o5.cell 0
    have d5 : w5.cell? ⟨g, 5, none⟩ = some (.int .i64 ((Gm.dat n : Nat) : Int)) := o5.cell 5
    have hl5 := hl.below hb5
    have hmm := hl.m
    clear hf hL hv
    go_wp2_with fail
    go_loop [7] (fun i => ∃ k : Nat, i = .int .i64 k ∧ Gm.dat n ≤ k ∧ k ≤ b ∧ ∀ j, Gm.dat n ≤ j → j < k → Gm.bit (toL (nth l 2)) j = true) (fun i => b - (intOf i).toNat)
    case atStart => exact ⟨Gm.dat n, rfl, Nat.le_refl _, by omega, fun j h1 h2 => absurd h1 (by omega)⟩
    case round =>
      obtain ⟨k, rfl, hkD, hkb, hQ⟩ := hrel
      have HQ := Lib.hid (And.intro hkD hQ)
      clear hQ
      by_cases hlt' : k < b
      · have k0 : (k : Int) < (b : Int) := by omega
        have hp := taken_any A b c l k w5 hl5.t (by omega) hs2 (by omega)
        replace hkb := hlt'
        cases hbt : Gm.bit (toL (nth l 2)) k with
        | true =>
          rw [hbt] at hp
          have HB := Lib.hid hbt
          clear hbt
          go_wp2_with fail
          refine hp.mono ?_
          rintro e w' ⟨rfl, rfl⟩
          go_wp2_with fail
          go_round
          case rel =>
            refine ⟨k + 1, by go_num, by omega, by omega, fun j h1 hj => ?_⟩
            by_cases hjk : j = k
            · rw [hjk]; exact HB.out
            · exact HQ.out.2 j h1 (by omega)
          case measure => simp [intOf]; omega
        | false =>
          rw [hbt] at hp
          have HB := Lib.hid hbt
          clear hbt
          go_wp2_with fail
          refine hp.mono ?_
          rintro e w' ⟨rfl, rfl⟩
          go_wp2_with fail
          refine (turned_any A b c l k _ hl5 (by omega) hs2 (by omega)).mono ?_
          rintro e w6 ⟨⟨A', c', rfl, hr⟩, hx6⟩
          have hb6 := hb5.trans (hx6.mono hb5.size)
          obtain ⟨g', rfl, hg1, hg2⟩ : ∃ g, A' = some ⟨g, 0, none⟩ ∧ w5.heap.size ≤ g ∧ g < w6.heap.size := by
            rcases hr.form with ⟨_, h0, _⟩ | h0
            · omega
            · exact h0
          clear hl5 d0 d5 o5
          go_wp2_with fail
          refine (hrep _).mono ?_
          rintro e w7 ⟨rfl, hx7⟩
          have hb7 := hb6.trans (hx7.mono hb6.size)
          have hr7 := hr.below hx7
          have cc := RS.cell hr7 hkb
          have cf := RS.frozen hr7 k
          have s7 := St.cellOf w7 g' k (.string (zs 128))
          have hr8 := (RS.put hr7 k (zs 128)).mono hb5.size
          have hb8 := s7.below hb7 (Nat.le_trans hb5.size hg1)
          have k1 : (k : Int) < (b : Int) := by omega
          clear hr hr7 hx6 hx7 hrep
          generalize nth (l.set 2 (turnT (nth l 2) k)) k = old at cc
          go_wp2_with fail
          refine bodyPost_ret (results_tmp3 rfl _ _ _) rfl ?_
          exact ⟨.inr (.inr ⟨b, n, k, some ⟨g', 0, none⟩, c', HV.out, ⟨HQ.out.1, hkb, HB.out, HQ.out.2⟩, rfl, hr8⟩), hb8⟩
      · obtain rfl : k = b := by omega
        go_wp2_with fail
        refine bodyPost_ret (results_tmp3 rfl _ _ _) rfl ?_
        exact ⟨.inr (.inl ⟨k, n, HV.out, HQ.out.2, rfl⟩), hb5⟩
  · have HN := Lib.hid hn
    clear hn
    have hb2 := hx.trans ((grow w1 (Obj.cells gz 24)).mono hx.size)
    have og := Nm.Own.new w1 24 gz
    go_wp2_with (refine sto24 (cs := gz) rfl rfl rfl rfl og gz_one gz_one ?_)
    intro w5 o5 s5
    have hb5 := s5.below hb2 hx.size
    clear hx hb2 og s5
    generalize w1.heap.size = g at *
    go_wp2_with fail
    refine bodyPost_ret (results_tmp3 rfl _ _ _) rfl ?_
    exact ⟨.inl ⟨HN.out, rfl⟩, hb5⟩
set_option maxHeartbeats 2000000 in
theorem rtake_any (A : Option Addr) (m c : Nat) (l : List ByteArray) (w : World) (hl : Tz w A m c l) (hL : Lit l m) :
    Calls Tryd.prog 21 #[.slice A m c] w fun e w' => TakeIs l w.heap.size e w' ∧ Below w.heap.size w w' := by
  have hz : ∀ wr, Calls Tryd.prog 25 #[.int .i64 128] wr fun e w' => e = .returned (.string (zs 128)) ∧ wr = w' := fun wr => zeros_any 128 wr (by omega)
  go_enter Tryd.func21, Tryd.ntmps21
  go_wp2_with fail
  refine (rof_any A m c l _ hl hL).mono ?_
  rintro e w1 ⟨ho, hx⟩
  rcases ho with ⟨b, n, hv, rfl⟩ | ⟨hn, rfl⟩
  · have HV := Lib.hid hv
    have hb2 := hx.trans ((grow w1 (Obj.cells gz 24)).mono hx.size)
    have og := Nm.Own.new w1 24 gz
    go_wp2_with (refine sto24 (cs := gc b n) rfl rfl rfl rfl og (gc_one _ _) gz_one ?_)
    intro w5 o5 s5
    have hb5 := s5.below hb2 hx.size
    clear hx hb2 og s5
    generalize w1.heap.size = g at *
    have hlen : l.length = m := hl.t.1
    obtain rfl : b = m := hv.len.symm.trans hlen
    have hlt := hv.lt
    have hf := hv.fits
    have hD : Gm.dat n < b := hf.2.2.2.2
    have hs2 := hv.blk 2 (by omega)
    have d0 : w5.cell? ⟨g, 0, none⟩ = some (.int .i64 (b : Int)) := o5.cell 0
    have d5 : w5.cell? ⟨g, 5, none⟩ = some (.int .i64 ((Gm.dat n : Nat) : Int)) := o5.cell 5
    have hl5 := hl.below hb5
    have hmm := hl.m
    obtain ⟨bb, off, rfl, hcc⟩ := hl5.t.2 (by omega)
    have c2 := hcc 2 (by omega)
    have n2 : (2 : Int) < (b : Int) := by omega
    clear hcc
    clear hf hL hv
    go_wp2_with fail
    go_loop [7] (fun i => ∃ k : Nat, i = .int .i64 k ∧ Gm.dat n ≤ k ∧ k ≤ b ∧ ∀ j, Gm.dat n ≤ j → j < k → Gm.bit (toL (nth l 2)) j = true) (fun i => b - (intOf i).toNat)
    case atStart => exact ⟨Gm.dat n, rfl, Nat.le_refl _, by omega, fun j h1 h2 => absurd h1 (by omega)⟩
    case round =>
      obtain ⟨k, rfl, hkD, hkb, hQ⟩ := hrel
      have HQ := Lib.hid (And.intro hkD hQ)
      clear hQ
      by_cases hlt' : k < b
      · have k0 : (k : Int) < (b : Int) := by omega
        have hp := rbit_any (nth l 2) k w5 hs2 (by omega)
        replace hkb := hlt'
        cases hbt : Gm.bit (toL (nth l 2)) k with
        | true =>
          rw [hbt] at hp
          have HB := Lib.hid hbt
          clear hbt
          go_wp2_with fail
          refine hp.mono ?_
          rintro e w' ⟨rfl, rfl⟩
          go_wp2_with fail
          go_round
          case rel =>
            refine ⟨k + 1, by go_num, by omega, by omega, fun j h1 hj => ?_⟩
            by_cases hjk : j = k
            · rw [hjk]; exact HB.out
            · exact HQ.out.2 j h1 (by omega)
          case measure => simp [intOf]; omega
        | false =>
          rw [hbt] at hp
          have HB := Lib.hid hbt
          clear hbt
          go_wp2_with fail
          refine hp.mono ?_
          rintro e w' ⟨rfl, rfl⟩
          go_wp2_with fail
          refine (rturn_any (nth l 2) k _ hs2 (by omega)).mono ?_
          rintro e w6 ⟨rfl, hx6⟩
          have hb6 := hb5.trans (hx6.mono hb5.size)
          go_wp2_with fail
          refine (with_any _ b c l 2 _ _ (hl.below hb6) (by omega)).mono ?_
          rintro e w7 ⟨⟨A', c', rfl, hr⟩, hx7⟩
          have hb7 := hb6.trans (hx7.mono hb6.size)
          go_wp2_with fail
          refine (hz _).mono ?_
          rintro e w7 ⟨rfl, rfl⟩
          go_wp2_with fail
          refine (with_any A' b c' _ k (zs 128) _ (Tz.of hr (by omega)) hkb).mono ?_
          rintro e w8 ⟨⟨A2, c2', rfl, hr8⟩, hx8⟩
          have hb8 := hb7.trans (hx8.mono hb7.size)
          go_wp2_with fail
          refine bodyPost_ret (results_tmp3 rfl _ _ _) rfl ?_
          exact ⟨.inr (.inr ⟨b, n, k, A2, c2', HV.out, ⟨HQ.out.1, hkb, HB.out, HQ.out.2⟩, rfl, hr8.mono hb7.size⟩), hb8⟩
      · obtain rfl : k = b := by omega
        go_wp2_with fail
        refine bodyPost_ret (results_tmp3 rfl _ _ _) rfl ?_
        exact ⟨.inr (.inl ⟨k, n, HV.out, HQ.out.2, rfl⟩), hb5⟩
  · have HN := Lib.hid hn
    clear hn
    have hb2 := hx.trans ((grow w1 (Obj.cells gz 24)).mono hx.size)
    have og := Nm.Own.new w1 24 gz
    go_wp2_with (refine sto24 (cs := gz) rfl rfl rfl rfl og gz_one gz_one ?_)
    intro w5 o5 s5
    have hb5 := s5.below hb2 hx.size
    clear hx hb2 og s5
    generalize w1.heap.size = g at *
    go_wp2_with fail
    refine bodyPost_ret (results_tmp3 rfl _ _ _) rfl ?_
    exact ⟨.inl ⟨HN.out, rfl⟩, hb5⟩
set_option maxHeartbeats 1000000 in
theorem room_any (A : Option Addr) (m c : Nat) (l : List ByteArray) (w : World) (hl : Tz w A m c l) (hL : Lit l m) :
    Calls Tryd.prog 14 #[.slice A m c] w fun e w' => RoomIs l e ∧ Below w.heap.size w w' := by
  go_enter Tryd.func14, Tryd.ntmps14
  go_wp2_with fail
  refine (of_any A m c l _ hl hL).mono ?_
  rintro e w1 ⟨ho, hx⟩
  rcases ho with ⟨b, n, hv, rfl⟩ | ⟨hn, rfl⟩
  · have HV := Lib.hid hv
    have hb2 := hx.trans ((grow w1 (Obj.cells gz 24)).mono hx.size)
    have og := Nm.Own.new w1 24 gz
    go_wp2_with (refine sto24 (cs := gc b n) rfl rfl rfl rfl og (gc_one _ _) gz_one ?_)
    intro w5 o5 s5
    have hb5 := s5.below hb2 hx.size
    clear hx hb2 og s5
    generalize w1.heap.size = g at *
    have hlen : l.length = m := hl.t.1
    obtain rfl : b = m := hv.len.symm.trans hlen
    have hlt := hv.lt
    have hf := hv.fits
    have hD : Gm.dat n < b := hf.2.2.2.2
    have hs2 := hv.blk 2 (by omega)
    have d0 : w5.cell? ⟨g, 0, none⟩ = some (.int .i64 (b : Int)) := o5.cell 0
    have d5 : w5.cell? ⟨g, 5, none⟩ = some (.int .i64 ((Gm.dat n : Nat) : Int)) := o5.cell 5
    have hl5 := hl.below hb5
    have hmm := hl.m
    clear hf hL hv
    go_wp2_with fail
    go_loop [5, 16] (fun s i => ∃ k : Nat, i = .int .i64 k ∧ k ≤ b ∧ s = .int .i64 (freeN (toL (nth l 2)) k : Nat)) (fun _ i => b - (intOf i).toNat)
    case atStart => exact ⟨0, rfl, Nat.zero_le _, rfl⟩
    case round =>
      obtain ⟨k, rfl, hkb, rfl⟩ := hrel
      by_cases hlt' : k < b
      · have k0 : (k : Int) < (b : Int) := by omega
        have hp := taken_any A b c l k w5 hl5.t (by omega) hs2 (by omega)
        have hfl := freeN_le (toL (nth l 2)) k
        have hfn := freeN_next (toL (nth l 2)) k
        generalize freeN (toL (nth l 2)) k = q at *
        cases hbt : Gm.bit (toL (nth l 2)) k with
        | true =>
          rw [hbt] at hp hfn
          have HF := Lib.hid hfn
          clear hbt hfn
          go_wp2_with fail
          refine hp.mono ?_
          rintro e w' ⟨rfl, rfl⟩
          go_wp2_with fail
          go_round
          case rel => exact ⟨k + 1, by go_num, by omega, by rw [HF.out]; rfl⟩
          case measure => simp [intOf]; omega
        | false =>
          rw [hbt] at hp hfn
          have HF := Lib.hid hfn
          clear hbt hfn
          go_wp2_with fail
          refine hp.mono ?_
          rintro e w' ⟨rfl, rfl⟩
          go_wp2_with fail
          go_round
          case rel => exact ⟨k + 1, by go_num, by omega, by rw [HF.out]; go_num⟩
          case measure => simp [intOf]; omega
      · obtain rfl : k = b := by omega
        go_wp2_with fail
        go_ret
        exact ⟨.inl ⟨k, n, HV.out, rfl⟩, hb5⟩
  · have HN := Lib.hid hn
    clear hn
    have hb2 := hx.trans ((grow w1 (Obj.cells gz 24)).mono hx.size)
    have og := Nm.Own.new w1 24 gz
    go_wp2_with (refine sto24 (cs := gz) rfl rfl rfl rfl og gz_one gz_one ?_)
    intro w5 o5 s5
    have hb5 := s5.below hb2 hx.size
    clear hx hb2 og s5
    generalize w1.heap.size = g at *
    go_wp2_with fail
    go_ret
    exact ⟨.inr ⟨HN.out, rfl⟩, hb5⟩
/-- so many rounds counted -/
def cnt (l : List ByteArray) (k q : Nat) : Prop := (∀ b n, Vol l b n → q = freeN (toL (nth l 2)) k) ∧ ((∀ b n, ¬ Vol l b n) → q = 0) ∧ q ≤ k
set_option maxHeartbeats 2000000 in
theorem rroom_any (A : Option Addr) (m c : Nat) (l : List ByteArray) (w : World) (hl : Tz w A m c l) (hL : Lit l m) :
    Calls Tryd.prog 19 #[.slice A m c] w fun e w' => RoomIs l e ∧ Below w.heap.size w w' := by
  have hmm := hl.m
  have hml : l.length = m := hl.t.1
  have hof := fun wr hw => rof_any A m c l wr (hl.below hw) hL
  have hus := fun (k : Nat) wr hw => rused_any A m c l (k : Int) wr (hl.below hw) hL
  go_enter Tryd.func19, Tryd.ntmps19
  go_wp2_with fail
  go_loopw [3, 9] (fun s i wr => ∃ k q : Nat, i = .int .i64 k ∧ k ≤ m ∧ s = .int .i64 q ∧ cnt l k q ∧ Below w.heap.size w wr) (fun _ i _ => m - (intOf i).toNat)
  case atStart => exact ⟨0, 0, rfl, Nat.zero_le _, rfl, ⟨fun _ _ _ => rfl, fun _ => rfl, Nat.le_refl _⟩, Below.refl _ _⟩
  case round =>
    obtain ⟨k, q, rfl, hkm, rfl, hc, hb⟩ := hrel
    have hq := hc.2.2
    have HC := Lib.hid hc
    clear hc
    by_cases hlt' : k < m
    · have k0 : (k : Int) < (m : Int) := by omega
      go_wp2_with fail
      refine (hof _ hb).mono ?_
      rintro e w1 ⟨ho, hx1⟩
      have hx := hb.trans (hx1.mono hb.size)
      clear hb hx1
      rcases ho with ⟨b, n, hv, rfl⟩ | ⟨hn, rfl⟩
      · have HV := Lib.hid hv
        clear hv
        have hb2 := hx.trans ((grow w1 (Obj.cells gz 24)).mono hx.size)
        have og := Nm.Own.new w1 24 gz
        go_wp2_with (refine sto24 (cs := gc b n) rfl rfl rfl rfl og (gc_one _ _) gz_one ?_)
        intro w5 o5 s5
        have hb5 := s5.below hb2 hx.size
        clear hx hb2 og s5
        generalize w1.heap.size = g at *
        have hp := hus k w5 hb5
        go_wp2_with fail
        refine hp.mono ?_
        rintro e w6 ⟨⟨r, rfl, hr⟩, hx6⟩
        have hb6 := hb5.trans (hx6.mono hb5.size)
        have HR := Lib.hid hr
        clear hr hp hx6
        cases r
        · go_wp2_with fail
          go_roundw
          case rel =>
            refine ⟨k + 1, q + 1, by go_num, by omega, by go_num, ⟨fun b' n' hv' => ?_, fun hn => absurd HV.out (hn _ _), by omega⟩, hb6⟩
            have hbit : Gm.bit (toL (nth l 2)) k = false := by
              cases hbt : Gm.bit (toL (nth l 2)) k
              · rfl
              · have := HR.out
                simp only [Bool.false_eq_true, false_iff] at this
                exact absurd ⟨b, n, HV.out, by omega, by have := HV.out.len; omega, by rw [Int.toNat_natCast]; exact hbt⟩ this
            rw [freeN_next, hbit, ← HC.out.1 _ _ hv']
            rfl
          case measure => simp [intOf]; omega
        · go_wp2_with fail
          go_roundw
          case rel =>
            refine ⟨k + 1, q, by go_num, by omega, by go_num, ⟨fun b' n' hv' => ?_, fun hn => absurd HV.out (hn _ _), by omega⟩, hb6⟩
            have hbit : Gm.bit (toL (nth l 2)) k = true := by
              have := HR.out
              simp only [true_iff] at this
              obtain ⟨_, _, _, _, _, hk⟩ := this
              rw [Int.toNat_natCast] at hk; exact hk
            rw [freeN_next, hbit, ← HC.out.1 _ _ hv']
            rfl
          case measure => simp [intOf]; omega
      · have HN := Lib.hid hn
        clear hn
        have hb2 := hx.trans ((grow w1 (Obj.cells gz 24)).mono hx.size)
        have og := Nm.Own.new w1 24 gz
        go_wp2_with (refine sto24 (cs := gz) rfl rfl rfl rfl og gz_one gz_one ?_)
        intro w5 o5 s5
        have hb5 := s5.below hb2 hx.size
        clear hx hb2 og s5
        generalize w1.heap.size = g at *
        go_wp2_with fail
        go_roundw
        case rel => exact ⟨k + 1, q, by go_num, by omega, by go_num, ⟨fun b' n' hv' => absurd hv' (HN.out _ _), fun hn => HC.out.2.1 hn, by omega⟩, hb5⟩
        case measure => simp [intOf]; omega
    · obtain rfl : k = m := by omega
      go_wp2_with fail
      go_ret
      refine ⟨?_, hb⟩
      by_cases hv : ∃ b n, Vol l b n
      · obtain ⟨b, n, hv⟩ := hv
        refine .inl ⟨b, n, hv, ?_⟩
        rw [HC.out.1 _ _ hv, ← hv.len, hml]
        rfl
      · refine .inr ⟨fun b n h => hv ⟨b, n, h⟩, ?_⟩
        rw [HC.out.2.1 (fun b n h => hv ⟨b, n, h⟩)]
        rfl
end Dw
end Go.Proofs.YtjfehloohpnmpaaDoor
