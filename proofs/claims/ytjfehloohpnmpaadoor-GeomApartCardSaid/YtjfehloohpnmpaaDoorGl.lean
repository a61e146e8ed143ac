/-
  THE WALKS of what is asked of a volume: is a block taken, what comes of giving one back.
-/
import Derived.Test.YtjfehloohpnmpaaDoorGk
namespace Go.Proofs.YtjfehloohpnmpaaDoor
set_option linter.unusedVariables false
set_option maxRecDepth 100000
set_option linter.unusedSimpArgs false
open Go.RowKit
namespace Dw
open _root_.Go.Proofs.YtjfehloohpnmpaaDoor.Nm
/-- the answer is whether that is so -/
def Says (p : Prop) (e : Ending) : Prop := ∃ r : Bool, e = .returned (.bool r) ∧ (r = true ↔ p)
/-- a block of a volume is taken -/
def UsedP (l : List ByteArray) (i : Int) : Prop := ∃ b n, Vol l b n ∧ 0 ≤ i ∧ i < (b : Int) ∧ Gm.bit (toL (nth l 2)) i.toNat = true
/-- what comes of giving a block back -/
def GiveIs (l : List ByteArray) (i : Int) (B : Nat) (e : Ending) (w' : World) : Prop :=
  ((∀ b n, ¬ Vol l b n) ∧ e = .returned (.tuple #[.slice none 0 0, .int .i64 3])) ∨
  (∃ b n, Vol l b n ∧ (i < ((Gm.dat n : Nat) : Int) ∨ (b : Int) ≤ i) ∧ e = .returned (.tuple #[.slice none 0 0, .int .i64 2])) ∨
  (∃ b n k, Vol l b n ∧ i = ((k : Nat) : Int) ∧ Gm.dat n ≤ k ∧ k < b ∧ Gm.bit (toL (nth l 2)) k = false ∧ e = .returned (.tuple #[.slice none 0 0, .int .i64 9])) ∨
  (∃ b n k A' c', Vol l b n ∧ i = ((k : Nat) : Int) ∧ Gm.dat n ≤ k ∧ k < b ∧ Gm.bit (toL (nth l 2)) k = true ∧ e = .returned (.tuple #[.slice A' b c', .int .i64 0]) ∧ RS w' B A' b c' (l.set 2 (turnT (nth l 2) k)))
set_option maxHeartbeats 1000000 in
theorem used_any (A : Option Addr) (m c : Nat) (l : List ByteArray) (i : Int) (w : World) (hl : Tz w A m c l) (hL : Lit l m) :
    Calls Tryd.prog 17 #[.slice A m c, .int .i64 i] w fun e w' => Says (UsedP l i) e ∧ Below w.heap.size w w' := by
  go_enter Tryd.func17, Tryd.ntmps17
  go_wp2_with fail
  refine (of_any A m c l _ hl hL).mono ?_
  rintro e w1 ⟨ho, hx⟩
  rcases ho with ⟨b, n, hv, rfl⟩ | ⟨hn, rfl⟩
  · have HV := Lib.hid hv
    have hb2 := hx.trans ((grow w1 (Obj.cells gz 24)).mono hx.size)
    have og := Nm.Own.new w1 24 gz
    go_wp2_with (refine sto24 (cs := gc b n) rfl rfl rfl rfl og (gc_one _ _) gz_one ?_)
    intro w5 o5 s5
    have hb5 := s5.below hb2 hx.size
    clear hx hb2 og s5
    generalize w1.heap.size = g at *
    have hlen : l.length = m := hl.t.1
    obtain rfl : b = m := hv.len.symm.trans hlen
    have hlt := hv.lt
    have hf := hv.fits
    have hD : Gm.dat n < b := hf.2.2.2.2
    have hs2 := hv.blk 2 (by omega)
    have d0 : w5.cell? ⟨g, 0, none⟩ = some (.int .i64 (b : Int)) := o5.cell 0
    have d5 : w5.cell? ⟨g, 5, none⟩ = some (.int .i64 ((Gm.dat n : Nat) : Int)) := o5.cell 5
    have hl5 := hl.below hb5
    have hmm := hl.m
    clear hf hL hlt
    by_cases h0 : 0 ≤ i
    · by_cases h1 : i < (b : Int)
      · obtain ⟨k, rfl⟩ := Int.eq_ofNat_of_zero_le h0
        have hp := taken_any A b c l k w5 hl5.t (by have := hv.lt; omega) hs2 (by have := hv.lt; omega)
        clear hv
        generalize hbt : Gm.bit (toL (nth l 2)) k = t at *
        have HB := Lib.hid hbt
        clear hbt
        go_wp2_with fail
        refine hp.mono ?_
        rintro e w' ⟨rfl, rfl⟩
        go_wp2_with fail
        go_ret
        refine ⟨⟨t, rfl, ?_⟩, hb5⟩
        constructor
        · intro ht
          exact ⟨b, n, HV.out, h0, h1, by rw [Int.toNat_natCast, HB.out]; exact ht⟩
        · rintro ⟨_, _, _, _, _, hk⟩
          rw [Int.toNat_natCast, HB.out] at hk; exact hk
      · clear hv
        go_wp2_with fail
        go_ret
        refine ⟨⟨false, rfl, ?_⟩, hb5⟩
        constructor
        · intro ht; exact nomatch ht
        · rintro ⟨b', n', hv', _, h, _⟩
          have := (HV.out.uniq hv').1
          omega
    · clear hv
      go_wp2_with fail
      go_ret
      refine ⟨⟨false, rfl, ?_⟩, hb5⟩
      constructor
      · intro ht; exact nomatch ht
      · rintro ⟨_, _, _, h, _, _⟩; exact absurd h (by omega)
  · have HN := Lib.hid hn
    clear hn
    have hb2 := hx.trans ((grow w1 (Obj.cells gz 24)).mono hx.size)
    have og := Nm.Own.new w1 24 gz
    go_wp2_with (refine sto24 (cs := gz) rfl rfl rfl rfl og gz_one gz_one ?_)
    intro w5 o5 s5
    have hb5 := s5.below hb2 hx.size
    clear hx hb2 og s5
    generalize w1.heap.size = g at *
    go_wp2_with fail
    go_ret
    refine ⟨⟨false, rfl, ?_⟩, hb5⟩
    constructor
    · intro ht; exact nomatch ht
    · rintro ⟨_, _, hv, _⟩; exact absurd hv (HN.out _ _)
set_option maxHeartbeats 1000000 in
theorem rused_any (A : Option Addr) (m c : Nat) (l : List ByteArray) (i : Int) (w : World) (hl : Tz w A m c l) (hL : Lit l m) :
    Calls Tryd.prog 18 #[.slice A m c, .int .i64 i] w fun e w' => Says (UsedP l i) e ∧ Below w.heap.size w w' := by
  go_enter Tryd.func18, Tryd.ntmps18
  go_wp2_with fail
  refine (rof_any A m c l _ hl hL).mono ?_
  rintro e w1 ⟨ho, hx⟩
  rcases ho with ⟨b, n, hv, rfl⟩ | ⟨hn, rfl⟩
  · have HV := Lib.hid hv
    have hb2 := hx.trans ((grow w1 (Obj.cells gz 24)).mono hx.size)
    have og := Nm.Own.new w1 24 gz
    go_wp2_with (refine sto24 (cs := gc b n) rfl rfl rfl rfl og (gc_one _ _) gz_one ?_)
    intro w5 o5 s5
    have hb5 := s5.below hb2 hx.size
    clear hx hb2 og s5
    generalize w1.heap.size = g at *
    have hlen : l.length = m := hl.t.1
    obtain rfl : b = m := hv.len.symm.trans hlen
    have hlt := hv.lt
    have hf := hv.fits
    have hD : Gm.dat n < b := hf.2.2.2.2
    have hs2 := hv.blk 2 (by omega)
    have d0 : w5.cell? ⟨g, 0, none⟩ = some (.int .i64 (b : Int)) := o5.cell 0
    have d5 : w5.cell? ⟨g, 5, none⟩ = some (.int .i64 ((Gm.dat n : Nat) : Int)) := o5.cell 5
    have hl5 := hl.below hb5
    have hmm := hl.m
    obtain ⟨bb, off, rfl, hcc⟩ := hl5.t.2 (by omega)
    have c2 := hcc 2 (by omega)
    have n2 : (2 : Int) < (b : Int) := by omega
    clear hcc
    clear hf hL hlt
    by_cases h0 : 0 ≤ i
    · by_cases h1 : i < (b : Int)
      · obtain ⟨k, rfl⟩ := Int.eq_ofNat_of_zero_le h0
        have hp := rbit_any (nth l 2) k w5 hs2 (by have := hv.lt; omega)
        clear hv
        generalize hbt : Gm.bit (toL (nth l 2)) k = t at *
        have HB := Lib.hid hbt
        clear hbt
        go_wp2_with fail
        refine hp.mono ?_
        rintro e w' ⟨rfl, rfl⟩
        go_wp2_with fail
        go_ret
        refine ⟨⟨t, rfl, ?_⟩, hb5⟩
        constructor
        · intro ht
          exact ⟨b, n, HV.out, h0, h1, by rw [Int.toNat_natCast, HB.out]; exact ht⟩
        · rintro ⟨_, _, _, _, _, hk⟩
          rw [Int.toNat_natCast, HB.out] at hk; exact hk
      · clear hv
        go_wp2_with fail
        go_ret
        refine ⟨⟨false, rfl, ?_⟩, hb5⟩
        constructor
        · intro ht; exact nomatch ht
        · rintro ⟨b', n', hv', _, h, _⟩
          have := (HV.out.uniq hv').1
          omega
    · clear hv
      go_wp2_with fail
      go_ret
      refine ⟨⟨false, rfl, ?_⟩, hb5⟩
      constructor
      · intro ht; exact nomatch ht
      · rintro ⟨_, _, _, h, _, _⟩; exact absurd h (by omega)
  · have HN := Lib.hid hn
    clear hn
    have hb2 := hx.trans ((grow w1 (Obj.cells gz 24)).mono hx.size)
    have og := Nm.Own.new w1 24 gz
    go_wp2_with (refine sto24 (cs := gz) rfl rfl rfl rfl og gz_one gz_one ?_)
    intro w5 o5 s5
    have hb5 := s5.below hb2 hx.size
    clear hx hb2 og s5
    generalize w1.heap.size = g at *
    go_wp2_with fail
    go_ret
    refine ⟨⟨false, rfl, ?_⟩, hb5⟩
    constructor
    · intro ht; exact nomatch ht
    · rintro ⟨_, _, hv, _⟩; exact absurd hv (HN.out _ _)
set_option maxHeartbeats 1000000 in
theorem give_any (A : Option Addr) (m c : Nat) (l : List ByteArray) (i : Int) (w : World) (hl : Tz w A m c l) (hL : Lit l m) :
    Calls Tryd.prog 22 #[.slice A m c, .int .i64 i] w fun e w' => GiveIs l i w.heap.size e w' ∧ Below w.heap.size w w' := by
  go_enter Tryd.func22, Tryd.ntmps22
  go_wp2_with fail
  refine (of_any A m c l _ hl hL).mono ?_
  rintro e w1 ⟨ho, hx⟩
  rcases ho with ⟨b, n, hv, rfl⟩ | ⟨hn, rfl⟩
  · have HV := Lib.hid hv
    have hb2 := hx.trans ((grow w1 (Obj.cells gz 24)).mono hx.size)
    have og := Nm.Own.new w1 24 gz
    go_wp2_with (refine sto24 (cs := gc b n) rfl rfl rfl rfl og (gc_one _ _) gz_one ?_)
    intro w5 o5 s5
    have hb5 := s5.below hb2 hx.size
    clear hx hb2 og s5
    generalize w1.heap.size = g at *
    have hlen : l.length = m := hl.t.1
    obtain rfl : b = m := hv.len.symm.trans hlen
    have hlt := hv.lt
    have hf := hv.fits
    have hD : Gm.dat n < b := hf.2.2.2.2
    have hs2 := hv.blk 2 (by omega)
    have d0 : w5.cell? ⟨g, 0, none⟩ = some (.int .i64 (b : Int)) := o5.cell 0
    have d5 : w5.cell? ⟨g, 5, none⟩ = some (.int .i64 ((Gm.dat n : Nat) : Int)) := o5.cell 5
    have hl5 := hl.below hb5
    have hmm := hl.m
    clear hf hL
    by_cases h0 : i < ((Gm.dat n : Nat) : Int)
    · clear hv
      go_wp2_with fail
      go_ret2
      exact ⟨.inr (.inl ⟨b, n, HV.out, .inl h0, rfl⟩), hb5⟩
    · by_cases h1 : (b : Int) ≤ i
      · clear hv
        go_wp2_with fail
        go_ret2
        exact ⟨.inr (.inl ⟨b, n, HV.out, .inr h1, rfl⟩), hb5⟩
      · obtain ⟨k, rfl⟩ := Int.eq_ofNat_of_zero_le (show 0 ≤ i by omega)
        have hk10 : k < 1024 := by omega
        have hkD : Gm.dat n ≤ k := by omega
        have hkb : k < b := by omega
        have hp := taken_any A b c l k w5 hl5.t (by have := hv.lt; omega) hs2 hk10
        clear hv
        cases hbt : Gm.bit (toL (nth l 2)) k with
        | false =>
          rw [hbt] at hp
          have HB := Lib.hid hbt
          clear hbt
          go_wp2_with fail
          refine hp.mono ?_
          rintro e w' ⟨rfl, rfl⟩
          go_wp2_with fail
          go_ret2
          exact ⟨.inr (.inr (.inl ⟨b, n, k, HV.out, rfl, hkD, hkb, HB.out, rfl⟩)), hb5⟩
        | true =>
          rw [hbt] at hp
          have HB := Lib.hid hbt
          clear hbt
          go_wp2_with fail
          refine hp.mono ?_
          rintro e w' ⟨rfl, rfl⟩
          go_wp2_with fail
          refine (turned_any A b c l k _ hl5 (by omega) hs2 hk10).mono ?_
          rintro e w6 ⟨⟨A', c', rfl, hr⟩, hx6⟩
          have hb6 := hb5.trans (hx6.mono hb5.size)
          go_wp2_with fail
          go_ret2
          exact ⟨.inr (.inr (.inr ⟨b, n, k, A', c', HV.out, rfl, hkD, hkb, HB.out, rfl, hr.mono hb5.size⟩)), hb6⟩
  · have HN := Lib.hid hn
    clear hn
    have hb2 := hx.trans ((grow w1 (Obj.cells gz 24)).mono hx.size)
    have og := Nm.Own.new w1 24 gz
    go_wp2_with (refine sto24 (cs := gz) rfl rfl rfl rfl og gz_one gz_one ?_)
    intro w5 o5 s5
    have hb5 := s5.below hb2 hx.size
    clear hx hb2 og s5
    generalize w1.heap.size = g at *
    go_wp2_with fail
    go_ret2
    exact ⟨.inl ⟨HN.out, rfl⟩, hb5⟩
set_option maxHeartbeats 1000000 in
theorem rgive_any (A : Option Addr) (m c : Nat) (l : List ByteArray) (i : Int) (w : World) (hl : Tz w A m c l) (hL : Lit l m) :
    Calls Tryd.prog 23 #[.slice A m c, .int .i64 i] w fun e w' => GiveIs l i w.heap.size e w' ∧ Below w.heap.size w w' := by
  go_enter Tryd.func23, Tryd.ntmps23
  go_wp2_with fail
  refine (rof_any A m c l _ hl hL).mono ?_
  rintro e w1 ⟨ho, hx⟩
  rcases ho with ⟨b, n, hv, rfl⟩ | ⟨hn, rfl⟩
  · have HV := Lib.hid hv
    have hb2 := hx.trans ((grow w1 (Obj.cells gz 24)).mono hx.size)
    have og := Nm.Own.new w1 24 gz
    go_wp2_with (refine sto24 (cs := gc b n) rfl rfl rfl rfl og (gc_one _ _) gz_one ?_)
    intro w5 o5 s5
    have hb5 := s5.below hb2 hx.size
    clear hx hb2 og s5
    generalize w1.heap.size = g at *
    have hlen : l.length = m := hl.t.1
    obtain rfl : b = m := hv.len.symm.trans hlen
    have hlt := hv.lt
    have hf := hv.fits
    have hD : Gm.dat n < b := hf.2.2.2.2
    have hs2 := hv.blk 2 (by omega)
    have d0 : w5.cell? ⟨g, 0, none⟩ = some (.int .i64 (b : Int)) := o5.cell 0
    have d5 : w5.cell? ⟨g, 5, none⟩ = some (.int .i64 ((Gm.dat n : Nat) : Int)) := o5.cell 5
    have hl5 := hl.below hb5
    have hmm := hl.m
    obtain ⟨bb, off, rfl, hcc⟩ := hl5.t.2 (by omega)
    have c2 := hcc 2 (by omega)
    have n2 : (2 : Int) < (b : Int) := by omega
    clear hcc
    clear hf hL
    by_cases h0 : i < ((Gm.dat n : Nat) : Int)
    · clear hv
      go_wp2_with fail
      go_ret2
      exact ⟨.inr (.inl ⟨b, n, HV.out, .inl h0, rfl⟩), hb5⟩
    · by_cases h1 : (b : Int) ≤ i
      · clear hv
        go_wp2_with fail
        go_ret2
        exact ⟨.inr (.inl ⟨b, n, HV.out, .inr h1, rfl⟩), hb5⟩
      · obtain ⟨k, rfl⟩ := Int.eq_ofNat_of_zero_le (show 0 ≤ i by omega)
        have hk10 : k < 1024 := by omega
        have hkD : Gm.dat n ≤ k := by omega
        have hkb : k < b := by omega
        have hp := rbit_any (nth l 2) k w5 hs2 hk10
        clear hv
        cases hbt : Gm.bit (toL (nth l 2)) k with
        | false =>
          rw [hbt] at hp
          have HB := Lib.hid hbt
          clear hbt
          go_wp2_with fail
          refine hp.mono ?_
          rintro e w' ⟨rfl, rfl⟩
          go_wp2_with fail
          go_ret2
          exact ⟨.inr (.inr (.inl ⟨b, n, k, HV.out, rfl, hkD, hkb, HB.out, rfl⟩)), hb5⟩
        | true =>
          rw [hbt] at hp
          have HB := Lib.hid hbt
          clear hbt
          go_wp2_with fail
          refine hp.mono ?_
          rintro e w' ⟨rfl, rfl⟩
          go_wp2_with fail
          refine (rturn_any (nth l 2) k _ hs2 hk10).mono ?_
          rintro e w6 ⟨rfl, hx6⟩
          have hb6 := hb5.trans (hx6.mono hb5.size)
          go_wp2_with fail
          refine (with_any _ b c l 2 _ _ (hl.below hb6) (by omega)).mono ?_
          rintro e w7 ⟨⟨A', c', rfl, hr⟩, hx7⟩
          have hb7 := hb6.trans (hx7.mono hb6.size)
          go_wp2_with fail
          go_ret2
          exact ⟨.inr (.inr (.inr ⟨b, n, k, A', c', HV.out, rfl, hkD, hkb, HB.out, rfl, hr.mono hb6.size⟩)), hb7⟩
  · have HN := Lib.hid hn
    clear hn
    have hb2 := hx.trans ((grow w1 (Obj.cells gz 24)).mono hx.size)
    have og := Nm.Own.new w1 24 gz
    go_wp2_with (refine sto24 (cs := gz) rfl rfl rfl rfl og gz_one gz_one ?_)
    intro w5 o5 s5
    have hb5 := s5.below hb2 hx.size
    clear hx hb2 og s5
    generalize w1.heap.size = g at *
    go_wp2_with fail
    go_ret2
    exact ⟨.inl ⟨HN.out, rfl⟩, hb5⟩
end Dw
end Go.Proofs.YtjfehloohpnmpaaDoor
