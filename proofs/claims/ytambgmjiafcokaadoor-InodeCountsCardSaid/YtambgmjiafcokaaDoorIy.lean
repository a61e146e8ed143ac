/-
  THE WALKS of an inode taken, by the code and by the document (New); what is got and put of a volume.
-/
import Derived.Test.YtambgmjiafcokaaDoorIx
namespace Go.Proofs.YtambgmjiafcokaaDoor
set_option linter.unusedVariables false
set_option maxRecDepth 100000
set_option linter.unusedSimpArgs false
open Go.RowKit
namespace Dw
open _root_.Go.Proofs.YtambgmjiafcokaaDoor.Nm
/-- the numbers of an inode that is taken -/
def newX (kind owner : Int) : Nat → Int
  | 0 => kind
  | 1 => owner
  | 2 => 1
  | _ => 0
def okNew (kind owner : Int) : Prop := 1 ≤ kind ∧ kind ≤ 2 ∧ 0 ≤ owner ∧ owner ≤ 15
theorem newX_fit {kind owner : Int} (h : okNew kind owner) : Ni.Fit (newX kind owner) := fun q hq => by
  obtain ⟨h1, h2, h3, h4⟩ := h
  match q, hq with
  | 0, _ => exact ⟨by show 0 ≤ kind; omega, by show kind < 256; omega⟩
  | 1, _ => exact ⟨h3, by show owner < 256; omega⟩
  | 2, _ => exact ⟨by show (0 : Int) ≤ 1; omega, by show (1 : Int) < 65536; omega⟩
  | 3, _ => exact ⟨Int.le_refl _, by show (0 : Int) < 4294967296; omega⟩
  | q + 4, hq =>
    refine ⟨Int.le_refl _, ?_⟩
    have : 0 < 256 ^ Ni.sz (q + 4) := Nat.pow_pos (by decide)
    show (0 : Int) < _
    omega
/-- what taking answers -/
def NewIs (l : List ByteArray) (kind owner : Int) (B : Nat) (e : Ending) (w' : World) : Prop :=
  ((∀ b m, ¬ Vol l b m) ∧ e = .returned (.tuple #[.slice none 0 0, .int .i64 0, .int .i64 3])) ∨
  (∃ b m, Vol l b m ∧ ¬ okNew kind owner ∧ e = .returned (.tuple #[.slice none 0 0, .int .i64 0, .int .i64 1])) ∨
  (∃ b m, Vol l b m ∧ okNew kind owner ∧ Non l m ∧ e = .returned (.tuple #[.slice none 0 0, .int .i64 0, .int .i64 10])) ∨
  (∃ b m j A' c', Vol l b m ∧ okNew kind owner ∧ Fre l m j ∧ e = .returned (.tuple #[.slice A' b c', .int .i64 ((j : Nat) : Int), .int .i64 0]) ∧ RS w' B A' b c' (putL l j (newX kind owner)))
theorem get_vol {A : Option Addr} {m c : Nat} {l : List ByteArray} {w : World} {b y j : Nat} (hl : Tz w A m c l) (hv : Vol l b y) (h1 : 1 ≤ j) (h2 : j ≤ y) (n : Int) (hn : n = (j : Int)) :
    Calls Tryd.prog 12 #[.slice A m c, .int .i64 n] w fun e w' => e = .returned (.tuple #[.agg (ic (getX l j)), .int .i64 0]) ∧ Below w.heap.size w w' := by
  subst hn
  have hlm : l.length = m := hl.t.1
  refine (iget_any A m c l (j : Int) w hl (fun k hk => hv.blk.lit k (by have := hv.len; omega))).mono ?_
  rintro e w' ⟨h, hb⟩
  refine ⟨?_, hb⟩
  rcases h with ⟨hn, _⟩ | ⟨b', y', hv', hn, _⟩ | ⟨b', y', j', hv', hj, _, _, rfl⟩
  · exact absurd hv (hn b y)
  · obtain ⟨_, rfl⟩ := hv.uniq hv'
    omega
  · obtain rfl : j = j' := by omega
    rfl
theorem put_volc {A : Option Addr} {m c : Nat} {l : List ByteArray} {w : World} {b y j : Nat} (hl : Tz w A m c l) (hv : Vol l b y) (h1 : 1 ≤ j) (h2 : j ≤ y) (n : Int) (hn : n = (j : Int)) {X : Nat → Int} (hf : Ni.Fit X) :
    Calls Tryd.prog 16 #[.slice A m c, .int .i64 n, .agg (ic X)] w fun e w' => (∃ A' c', e = .returned (.tuple #[.slice A' m c', .int .i64 0]) ∧ RS w' w.heap.size A' m c' (putL l j X)) ∧ Below w.heap.size w w' := by
  subst hn
  have hlm : l.length = m := hl.t.1
  refine (put_iany A m c l (j : Int) X w hl (fun k hk => hv.blk.lit k (by have := hv.len; omega))).mono ?_
  rintro e w' ⟨h, hb⟩
  refine ⟨?_, hb⟩
  rcases h with ⟨hn, _⟩ | ⟨b', y', hv', hn, _⟩ | ⟨b', y', j', hv', hj, _, _, hX, _⟩ | ⟨b', y', j', A', c', hv', hj, _, _, _, rfl, hr⟩
  · exact absurd hv (hn b y)
  · obtain ⟨_, rfl⟩ := hv.uniq hv'
    omega
  · exact absurd hf hX
  · obtain rfl : j = j' := by omega
    obtain rfl : m = b' := hlm.symm.trans hv'.len
    exact ⟨A', c', rfl, hr⟩
theorem rget_vol {A : Option Addr} {m c : Nat} {l : List ByteArray} {w : World} {b y j : Nat} (hl : Tz w A m c l) (hv : Vol l b y) (h1 : 1 ≤ j) (h2 : j ≤ y) (n : Int) (hn : n = (j : Int)) :
    Calls Tryd.prog 13 #[.slice A m c, .int .i64 n] w fun e w' => e = .returned (.tuple #[.agg (ic (getX l j)), .int .i64 0]) ∧ Below w.heap.size w w' := by
  subst hn
  have hlm : l.length = m := hl.t.1
  refine (rget_iany A m c l (j : Int) w hl (fun k hk => hv.blk.lit k (by have := hv.len; omega))).mono ?_
  rintro e w' ⟨h, hb⟩
  refine ⟨?_, hb⟩
  rcases h with ⟨hn, _⟩ | ⟨b', y', hv', hn, _⟩ | ⟨b', y', j', hv', hj, _, _, rfl⟩
  · exact absurd hv (hn b y)
  · obtain ⟨_, rfl⟩ := hv.uniq hv'
    omega
  · obtain rfl : j = j' := by omega
    rfl
theorem rput_vol {A : Option Addr} {m c : Nat} {l : List ByteArray} {w : World} {b y j : Nat} (hl : Tz w A m c l) (hv : Vol l b y) (h1 : 1 ≤ j) (h2 : j ≤ y) (n : Int) (hn : n = (j : Int)) {X : Nat → Int} (hf : Ni.Fit X) :
    Calls Tryd.prog 17 #[.slice A m c, .int .i64 n, .agg (ic X)] w fun e w' => (∃ A' c', e = .returned (.tuple #[.slice A' m c', .int .i64 0]) ∧ RS w' w.heap.size A' m c' (putL l j X)) ∧ Below w.heap.size w w' := by
  subst hn
  have hlm : l.length = m := hl.t.1
  refine (rput_iany A m c l (j : Int) X w hl (fun k hk => hv.blk.lit k (by have := hv.len; omega))).mono ?_
  rintro e w' ⟨h, hb⟩
  refine ⟨?_, hb⟩
  rcases h with ⟨hn, _⟩ | ⟨b', y', hv', hn, _⟩ | ⟨b', y', j', hv', hj, _, _, hX, _⟩ | ⟨b', y', j', A', c', hv', hj, _, _, _, rfl, hr⟩
  · exact absurd hv (hn b y)
  · obtain ⟨_, rfl⟩ := hv.uniq hv'
    omega
  · exact absurd hf hX
  · obtain rfl : j = j' := by omega
    obtain rfl : m = b' := hlm.symm.trans hv'.len
    exact ⟨A', c', rfl, hr⟩
set_option maxHeartbeats 4000000 in
theorem new_any (A : Option Addr) (m c : Nat) (l : List ByteArray) (kind owner : Int) (w : World) (hl : Tz w A m c l) (hL : Lit l m) :
    Calls Tryd.prog 19 #[.slice A m c, .int .i64 kind, .int .i64 owner] w fun e w' => NewIs l kind owner w.heap.size e w' ∧ Below w.heap.size w w' := by
  obtain ⟨B, hB⟩ : ∃ B, w.heap.size = B := ⟨_, rfl⟩
  go_enter Tryd.func19, Tryd.ntmps19
  go_wp2_with fail
  refine (of_any A m c l _ hl hL).mono ?_
  rintro e w1 ⟨hof, hx⟩
  have og := Nm.Own.new w1 58 gz
  have hb2 := hx.trans ((grow w1 (Obj.cells gz 58)).mono hx.size)
  rcases hof with ⟨b, y, hv, rfl⟩ | ⟨hv, rfl⟩
  · have HV := Lib.hid hv
    go_wp2_with (refine sto24 (cs := gc b y) rfl rfl rfl rfl og (gc_one _ _) gz_one ?_)
    intro w5 o5 s5
    have hb5 := s5.below hb2 hx.size
    clear hx hb2 og s5
    rw [hB] at hb5
    generalize w1.heap.size = g at *
    have hy := hv.lt
    by_cases hk : kind ≠ 1 ∧ kind ≠ 2
    · have HN := Lib.hid (show ¬ okNew kind owner by unfold okNew; omega)
      have k1 : (kind != 1) = true := by simp [hk.1]
      have k2 : (kind != 2) = true := by simp [hk.2]
      clear hk hv
      go_wp2_with fail
      refine bodyPost_ret (v := .tuple #[.slice none 0 0, .int .i64 0, .int .i64 1]) (by simp [results, Tryd.results19, go_sem]) rfl ?_
      exact ⟨.inr (.inl ⟨b, y, HV.out, HN.out, rfl⟩), by first | exact hb5 | (rw [hB]; exact hb5)⟩
    by_cases ho : owner < 0
    · have HN := Lib.hid (show ¬ okNew kind owner by unfold okNew; omega)
      have hcase : kind = 1 ∨ kind = 2 := by omega
      clear hv hk
      rcases hcase with hk | hk <;> subst hk
      · go_wp2_with fail
        refine bodyPost_ret (v := .tuple #[.slice none 0 0, .int .i64 0, .int .i64 1]) (by simp [results, Tryd.results19, go_sem]) rfl ?_
        exact ⟨.inr (.inl ⟨b, y, HV.out, HN.out, rfl⟩), by first | exact hb5 | (rw [hB]; exact hb5)⟩
      · go_wp2_with fail
        refine bodyPost_ret (v := .tuple #[.slice none 0 0, .int .i64 0, .int .i64 1]) (by simp [results, Tryd.results19, go_sem]) rfl ?_
        exact ⟨.inr (.inl ⟨b, y, HV.out, HN.out, rfl⟩), by first | exact hb5 | (rw [hB]; exact hb5)⟩
    by_cases ho2 : 15 < owner
    · have HN := Lib.hid (show ¬ okNew kind owner by unfold okNew; omega)
      have hcase : kind = 1 ∨ kind = 2 := by omega
      have ho3 : 16 ≤ owner := by omega
      clear hv hk
      rcases hcase with hk | hk <;> subst hk
      · go_wp2_with fail
        refine bodyPost_ret (v := .tuple #[.slice none 0 0, .int .i64 0, .int .i64 1]) (by simp [results, Tryd.results19, go_sem]) rfl ?_
        exact ⟨.inr (.inl ⟨b, y, HV.out, HN.out, rfl⟩), by first | exact hb5 | (rw [hB]; exact hb5)⟩
      · go_wp2_with fail
        refine bodyPost_ret (v := .tuple #[.slice none 0 0, .int .i64 0, .int .i64 1]) (by simp [results, Tryd.results19, go_sem]) rfl ?_
        exact ⟨.inr (.inl ⟨b, y, HV.out, HN.out, rfl⟩), by first | exact hb5 | (rw [hB]; exact hb5)⟩
    have hok : okNew kind owner := by unfold okNew; omega
    have hcase : kind = 1 ∨ kind = 2 := by omega
    have ho3 : ¬ 16 ≤ owner := by omega
    clear hk
    have hlm : l.length = m := hl.t.1
    obtain rfl : m = b := hlm.symm.trans hv.len
    have HOK := Lib.hid hok
    have hput := fun wr (h : Tz wr A m c l) (j : Nat) (h1 : 1 ≤ j) (h2 : j ≤ y) => put_volc h hv h1 h2 (j : Int) rfl (newX_fit hok)
    have hput := fun wr (h : Tz wr A m c l) (j : Nat) (h1 : 1 ≤ j) (h2 : j ≤ y) => show Calls Tryd.prog 16 #[.slice A m c, .int .i64 (j : Int), .agg #[.int .i64 kind, .int .i64 1, .int .i64 owner, .int .i64 0, .int .i64 0, .int .i64 0, .int .i64 0, .int .i64 0, .int .i64 0, .int .i64 0, .int .i64 0, .int .i64 0]] wr _ from hput wr h j h1 h2
    have hget := fun wr (h : Tz wr A m c l) (j : Nat) (h1 : 1 ≤ j) (h2 : j ≤ y) => get_vol h hv h1 h2 (j : Int) rfl
    clear hok hv
    rcases hcase with hk | hk <;> subst hk
    · go_wp2_with fail
      go_loopw [11] (fun i wr => ∃ k : Nat, k ≤ y ∧ i = .int .i64 ((k : Int) + 1) ∧ (∀ j, 1 ≤ j → j ≤ k → getX l j 0 ≠ 0) ∧ Nm.Own wr g 58 (gc m y) ∧ Below B w wr) (fun i _ => y + 1 - (intOf i).toNat)
      case atStart => exact ⟨0, by omega, rfl, (fun j h1 h2 => by omega), o5, hb5⟩
      case round =>
        clear o5 hb5
        obtain ⟨k, hk, rfl, hnon, o5, hb5⟩ := hrel
        have d1 : wr.cell? ⟨g, 1, none⟩ = some (.int .i64 (y : Int)) := o5.cell 1
        have HNON := Lib.hid hnon
        clear hnon
        by_cases hlt : k < y
        · have k0 : (k : Int) + 1 ≤ (y : Int) := by omega
          have hl5 := hl.below (hB ▸ hb5)
          have hg := hget wr hl5 (k + 1) (by omega) (by omega)
          have hpp := fun wr h => hput wr h (k + 1) (by omega) (by omega)
          have ck : ((k + 1 : Nat) : Int) = (k : Int) + 1 := by omega
          rw [ck] at hg
          simp only [ck] at hpp
          clear hget hput
          go_wp2_with fail
          refine hg.mono ?_
          rintro e w7 ⟨rfl, hx⟩
          have hl7 := hl5.below hx
          have o7 := o5.below hx
          have hb7 := hb5.trans (hx.mono (hB ▸ hb5.size))
          have ox := Nm.Own.new w7 27 (ic zX)
          have hgx := grow w7 (Obj.cells (ic zX) 27)
          have hl8 := hl7.below hgx
          have o8 := o7.below hgx
          have hb8 := hb7.trans (hgx.mono (hB ▸ hb7.size))
          have hlt7 := o7.lt
          have hb7s : B ≤ w7.heap.size := (hB ▸ hb7.size)
          clear hl5 hl7 o5 o7 hb5 hb7 hx hgx
          go_wp2_with (refine sto27 (X := getX l (k + 1)) rfl rfl rfl rfl ox ?_)
          intro w9 ox9 s9
          have o9 := s9.own o8 (by omega)
          have hb9 := s9.below hb8 hb7s
          have hl9 := hl.below (hB ▸ hb9)
          have cx : w9.cell? ⟨w7.heap.size, 0, none⟩ = some (.int .i64 (getX l (k + 1) 0)) := ox9.cell 0
          clear s9 o8 hb8 hl8 ox ox9
          by_cases hz : getX l (k + 1) 0 = 0
          · have HFR := Lib.hid (show Fre l y (k + 1) from ⟨by omega, by omega, hz, fun j h1 h2 => HNON.out j h1 (by omega)⟩)
            rw [hz] at cx
            clear hz
            go_wp2_with fail
            refine (hpp _ hl9).mono ?_
            rintro e w10 ⟨⟨A', c', rfl, hr⟩, hx⟩
            have hb10 := hb9.trans (hx.mono (hB ▸ hb9.size))
            have hrm := RS.mono hr (show w.heap.size ≤ w9.heap.size from hb9.size)
            clear hr hx
            go_wp2_with fail
            refine bodyPost_ret (v := .tuple #[.slice A' m c', .int .i64 ((k : Int) + 1), .int .i64 0]) (by simp [results, Tryd.results19, go_sem]) rfl ?_
            exact ⟨.inr (.inr (.inr ⟨m, y, k + 1, A', c', HV.out, HOK.out, HFR.out, by rw [ck], by first | exact hrm | (rw [← hB]; exact hrm)⟩)), by first | exact hb10 | (rw [hB]; exact hb10)⟩
          · have HZK := Lib.hid (show getX l (k + 1) 0 ≠ 0 from hz)
            have hz1 : (getX l (k + 1) 0 == 0) = false := by simp [hz]
            have e3 : IntKind.i64.wrap ((k : Int) + 1 + 1) = (k : Int) + 1 + 1 := IntWalk.i64_in _ (by omega)
            go_wp2_with fail
            go_roundw
            case rel => exact ⟨k + 1, by omega, by go_num, (fun j h1 h2 => by
              by_cases e : j = k + 1
              · subst e; exact HZK.out
              · exact HNON.out j h1 (by omega)), o9, hb9⟩
            case measure => simp [intOf]; omega
        · obtain rfl : k = y := by omega
          have k0 : ¬ (k : Int) + 1 ≤ (k : Int) := by omega
          clear hget hput
          go_wp2_with fail
          refine bodyPost_ret (v := .tuple #[.slice none 0 0, .int .i64 0, .int .i64 10]) (by simp [results, Tryd.results19, go_sem]) rfl ?_
          exact ⟨.inr (.inr (.inl ⟨m, k, HV.out, HOK.out, HNON.out, rfl⟩)), by first | exact hb5 | (rw [hB]; exact hb5)⟩
    · go_wp2_with fail
      go_loopw [11] (fun i wr => ∃ k : Nat, k ≤ y ∧ i = .int .i64 ((k : Int) + 1) ∧ (∀ j, 1 ≤ j → j ≤ k → getX l j 0 ≠ 0) ∧ Nm.Own wr g 58 (gc m y) ∧ Below B w wr) (fun i _ => y + 1 - (intOf i).toNat)
      case atStart => exact ⟨0, by omega, rfl, (fun j h1 h2 => by omega), o5, hb5⟩
      case round =>
        clear o5 hb5
        obtain ⟨k, hk, rfl, hnon, o5, hb5⟩ := hrel
        have d1 : wr.cell? ⟨g, 1, none⟩ = some (.int .i64 (y : Int)) := o5.cell 1
        have HNON := Lib.hid hnon
        clear hnon
        by_cases hlt : k < y
        · have k0 : (k : Int) + 1 ≤ (y : Int) := by omega
          have hl5 := hl.below (hB ▸ hb5)
          have hg := hget wr hl5 (k + 1) (by omega) (by omega)
          have hpp := fun wr h => hput wr h (k + 1) (by omega) (by omega)
          have ck : ((k + 1 : Nat) : Int) = (k : Int) + 1 := by omega
          rw [ck] at hg
          simp only [ck] at hpp
          clear hget hput
          go_wp2_with fail
          refine hg.mono ?_
          rintro e w7 ⟨rfl, hx⟩
          have hl7 := hl5.below hx
          have o7 := o5.below hx
          have hb7 := hb5.trans (hx.mono (hB ▸ hb5.size))
          have ox := Nm.Own.new w7 27 (ic zX)
          have hgx := grow w7 (Obj.cells (ic zX) 27)
          have hl8 := hl7.below hgx
          have o8 := o7.below hgx
          have hb8 := hb7.trans (hgx.mono (hB ▸ hb7.size))
          have hlt7 := o7.lt
          have hb7s : B ≤ w7.heap.size := (hB ▸ hb7.size)
          clear hl5 hl7 o5 o7 hb5 hb7 hx hgx
          go_wp2_with (refine sto27 (X := getX l (k + 1)) rfl rfl rfl rfl ox ?_)
          intro w9 ox9 s9
          have o9 := s9.own o8 (by omega)
          have hb9 := s9.below hb8 hb7s
          have hl9 := hl.below (hB ▸ hb9)
          have cx : w9.cell? ⟨w7.heap.size, 0, none⟩ = some (.int .i64 (getX l (k + 1) 0)) := ox9.cell 0
          clear s9 o8 hb8 hl8 ox ox9
          by_cases hz : getX l (k + 1) 0 = 0
          · have HFR := Lib.hid (show Fre l y (k + 1) from ⟨by omega, by omega, hz, fun j h1 h2 => HNON.out j h1 (by omega)⟩)
            rw [hz] at cx
            clear hz
            go_wp2_with fail
            refine (hpp _ hl9).mono ?_
            rintro e w10 ⟨⟨A', c', rfl, hr⟩, hx⟩
            have hb10 := hb9.trans (hx.mono (hB ▸ hb9.size))
            have hrm := RS.mono hr (show w.heap.size ≤ w9.heap.size from hb9.size)
            clear hr hx
            go_wp2_with fail
            refine bodyPost_ret (v := .tuple #[.slice A' m c', .int .i64 ((k : Int) + 1), .int .i64 0]) (by simp [results, Tryd.results19, go_sem]) rfl ?_
            exact ⟨.inr (.inr (.inr ⟨m, y, k + 1, A', c', HV.out, HOK.out, HFR.out, by rw [ck], by first | exact hrm | (rw [← hB]; exact hrm)⟩)), by first | exact hb10 | (rw [hB]; exact hb10)⟩
          · have HZK := Lib.hid (show getX l (k + 1) 0 ≠ 0 from hz)
            have hz1 : (getX l (k + 1) 0 == 0) = false := by simp [hz]
            have e3 : IntKind.i64.wrap ((k : Int) + 1 + 1) = (k : Int) + 1 + 1 := IntWalk.i64_in _ (by omega)
            go_wp2_with fail
            go_roundw
            case rel => exact ⟨k + 1, by omega, by go_num, (fun j h1 h2 => by
              by_cases e : j = k + 1
              · subst e; exact HZK.out
              · exact HNON.out j h1 (by omega)), o9, hb9⟩
            case measure => simp [intOf]; omega
        · obtain rfl : k = y := by omega
          have k0 : ¬ (k : Int) + 1 ≤ (k : Int) := by omega
          clear hget hput
          go_wp2_with fail
          refine bodyPost_ret (v := .tuple #[.slice none 0 0, .int .i64 0, .int .i64 10]) (by simp [results, Tryd.results19, go_sem]) rfl ?_
          exact ⟨.inr (.inr (.inl ⟨m, k, HV.out, HOK.out, HNON.out, rfl⟩)), by first | exact hb5 | (rw [hB]; exact hb5)⟩
  · have HV := Lib.hid hv
    clear hv
    go_wp2_with (refine sto24 (cs := gz) rfl rfl rfl rfl og gz_one gz_one ?_)
    intro w5 o5 s5
    have hb5 := s5.below hb2 hx.size
    clear hx hb2 og s5 o5
    go_wp2_with fail
    refine bodyPost_ret (v := .tuple #[.slice none 0 0, .int .i64 0, .int .i64 3]) (by simp [results, Tryd.results19, go_sem]) rfl ?_
    exact ⟨.inl ⟨HV.out, rfl⟩, hb5⟩
set_option maxHeartbeats 4000000 in
theorem rnew_any (A : Option Addr) (m c : Nat) (l : List ByteArray) (kind owner : Int) (w : World) (hl : Tz w A m c l) (hL : Lit l m) :
    Calls Tryd.prog 20 #[.slice A m c, .int .i64 kind, .int .i64 owner] w fun e w' => NewIs l kind owner w.heap.size e w' ∧ Below w.heap.size w w' := by
  obtain ⟨B, hB⟩ : ∃ B, w.heap.size = B := ⟨_, rfl⟩
  go_enter Tryd.func20, Tryd.ntmps20
  go_wp2_with fail
  refine (rof_any A m c l _ hl hL).mono ?_
  rintro e w1 ⟨hof, hx⟩
  have og := Nm.Own.new w1 58 gz
  have hb2 := hx.trans ((grow w1 (Obj.cells gz 58)).mono hx.size)
  rcases hof with ⟨b, y, hv, rfl⟩ | ⟨hv, rfl⟩
  · have HV := Lib.hid hv
    go_wp2_with (refine sto24 (cs := gc b y) rfl rfl rfl rfl og (gc_one _ _) gz_one ?_)
    intro w5 o5 s5
    have hb5 := s5.below hb2 hx.size
    clear hx hb2 og s5
    rw [hB] at hb5
    generalize w1.heap.size = g at *
    have hy := hv.lt
    by_cases hk : kind ≠ 1 ∧ kind ≠ 2
    · have HN := Lib.hid (show ¬ okNew kind owner by unfold okNew; omega)
      have k1 : (kind != 1) = true := by simp [hk.1]
      have k2 : (kind != 2) = true := by simp [hk.2]
      clear hk hv
      go_wp2_with fail
      refine bodyPost_ret (v := .tuple #[.slice none 0 0, .int .i64 0, .int .i64 1]) (by simp [results, Tryd.results20, go_sem]) rfl ?_
      exact ⟨.inr (.inl ⟨b, y, HV.out, HN.out, rfl⟩), by first | exact hb5 | (rw [hB]; exact hb5)⟩
    by_cases ho : owner < 0
    · have HN := Lib.hid (show ¬ okNew kind owner by unfold okNew; omega)
      have hcase : kind = 1 ∨ kind = 2 := by omega
      clear hv hk
      rcases hcase with hk | hk <;> subst hk
      · go_wp2_with fail
        refine bodyPost_ret (v := .tuple #[.slice none 0 0, .int .i64 0, .int .i64 1]) (by simp [results, Tryd.results20, go_sem]) rfl ?_
        exact ⟨.inr (.inl ⟨b, y, HV.out, HN.out, rfl⟩), by first | exact hb5 | (rw [hB]; exact hb5)⟩
      · go_wp2_with fail
        refine bodyPost_ret (v := .tuple #[.slice none 0 0, .int .i64 0, .int .i64 1]) (by simp [results, Tryd.results20, go_sem]) rfl ?_
        exact ⟨.inr (.inl ⟨b, y, HV.out, HN.out, rfl⟩), by first | exact hb5 | (rw [hB]; exact hb5)⟩
    by_cases ho2 : 15 < owner
    · have HN := Lib.hid (show ¬ okNew kind owner by unfold okNew; omega)
      have hcase : kind = 1 ∨ kind = 2 := by omega
      have ho3 : 16 ≤ owner := by omega
      clear hv hk
      rcases hcase with hk | hk <;> subst hk
      · go_wp2_with fail
        refine bodyPost_ret (v := .tuple #[.slice none 0 0, .int .i64 0, .int .i64 1]) (by simp [results, Tryd.results20, go_sem]) rfl ?_
        exact ⟨.inr (.inl ⟨b, y, HV.out, HN.out, rfl⟩), by first | exact hb5 | (rw [hB]; exact hb5)⟩
      · go_wp2_with fail
        refine bodyPost_ret (v := .tuple #[.slice none 0 0, .int .i64 0, .int .i64 1]) (by simp [results, Tryd.results20, go_sem]) rfl ?_
        exact ⟨.inr (.inl ⟨b, y, HV.out, HN.out, rfl⟩), by first | exact hb5 | (rw [hB]; exact hb5)⟩
    have hok : okNew kind owner := by unfold okNew; omega
    have hcase : kind = 1 ∨ kind = 2 := by omega
    have ho3 : ¬ 16 ≤ owner := by omega
    clear hk
    have hlm : l.length = m := hl.t.1
    obtain rfl : m = b := hlm.symm.trans hv.len
    have HOK := Lib.hid hok
    have hput := fun wr (h : Tz wr A m c l) (j : Nat) (h1 : 1 ≤ j) (h2 : j ≤ y) => rput_vol h hv h1 h2 (j : Int) rfl (newX_fit hok)
    have hput := fun wr (h : Tz wr A m c l) (j : Nat) (h1 : 1 ≤ j) (h2 : j ≤ y) => show Calls Tryd.prog 17 #[.slice A m c, .int .i64 (j : Int), .agg #[.int .i64 kind, .int .i64 1, .int .i64 owner, .int .i64 0, .int .i64 0, .int .i64 0, .int .i64 0, .int .i64 0, .int .i64 0, .int .i64 0, .int .i64 0, .int .i64 0]] wr _ from hput wr h j h1 h2
    have hget := fun wr (h : Tz wr A m c l) (j : Nat) (h1 : 1 ≤ j) (h2 : j ≤ y) => rget_vol h hv h1 h2 (j : Int) rfl
    clear hok hv
    rcases hcase with hk | hk <;> subst hk
    · go_wp2_with fail
      go_loopw [11] (fun i wr => ∃ k : Nat, k ≤ y ∧ i = .int .i64 ((k : Int) + 1) ∧ (∀ j, 1 ≤ j → j ≤ k → getX l j 0 ≠ 0) ∧ Nm.Own wr g 58 (gc m y) ∧ Below B w wr) (fun i _ => y + 1 - (intOf i).toNat)
      case atStart => exact ⟨0, by omega, rfl, (fun j h1 h2 => by omega), o5, hb5⟩
      case round =>
        clear o5 hb5
        obtain ⟨k, hk, rfl, hnon, o5, hb5⟩ := hrel
        have d1 : wr.cell? ⟨g, 1, none⟩ = some (.int .i64 (y : Int)) := o5.cell 1
        have HNON := Lib.hid hnon
        clear hnon
        by_cases hlt : k < y
        · have k0 : (k : Int) + 1 ≤ (y : Int) := by omega
          have hl5 := hl.below (hB ▸ hb5)
          have hg := hget wr hl5 (k + 1) (by omega) (by omega)
          have hpp := fun wr h => hput wr h (k + 1) (by omega) (by omega)
          have ck : ((k + 1 : Nat) : Int) = (k : Int) + 1 := by omega
          rw [ck] at hg
          simp only [ck] at hpp
          clear hget hput
          go_wp2_with fail
          refine hg.mono ?_
          rintro e w7 ⟨rfl, hx⟩
          have hl7 := hl5.below hx
          have o7 := o5.below hx
          have hb7 := hb5.trans (hx.mono (hB ▸ hb5.size))
          have ox := Nm.Own.new w7 27 (ic zX)
          have hgx := grow w7 (Obj.cells (ic zX) 27)
          have hl8 := hl7.below hgx
          have o8 := o7.below hgx
          have hb8 := hb7.trans (hgx.mono (hB ▸ hb7.size))
          have hlt7 := o7.lt
          have hb7s : B ≤ w7.heap.size := (hB ▸ hb7.size)
          clear hl5 hl7 o5 o7 hb5 hb7 hx hgx
          go_wp2_with (refine sto27 (X := getX l (k + 1)) rfl rfl rfl rfl ox ?_)
          intro w9 ox9 s9
          have o9 := s9.own o8 (by omega)
          have hb9 := s9.below hb8 hb7s
          have hl9 := hl.below (hB ▸ hb9)
          have cx : w9.cell? ⟨w7.heap.size, 0, none⟩ = some (.int .i64 (getX l (k + 1) 0)) := ox9.cell 0
          clear s9 o8 hb8 hl8 ox ox9
          by_cases hz : getX l (k + 1) 0 = 0
          · have HFR := Lib.hid (show Fre l y (k + 1) from ⟨by omega, by omega, hz, fun j h1 h2 => HNON.out j h1 (by omega)⟩)
            rw [hz] at cx
            clear hz
            go_wp2_with fail
            refine (hpp _ hl9).mono ?_
            rintro e w10 ⟨⟨A', c', rfl, hr⟩, hx⟩
            have hb10 := hb9.trans (hx.mono (hB ▸ hb9.size))
            have hrm := RS.mono hr (show w.heap.size ≤ w9.heap.size from hb9.size)
            clear hr hx
            go_wp2_with fail
            refine bodyPost_ret (v := .tuple #[.slice A' m c', .int .i64 ((k : Int) + 1), .int .i64 0]) (by simp [results, Tryd.results20, go_sem]) rfl ?_
            exact ⟨.inr (.inr (.inr ⟨m, y, k + 1, A', c', HV.out, HOK.out, HFR.out, by rw [ck], by first | exact hrm | (rw [← hB]; exact hrm)⟩)), by first | exact hb10 | (rw [hB]; exact hb10)⟩
          · have HZK := Lib.hid (show getX l (k + 1) 0 ≠ 0 from hz)
            have hz1 : (getX l (k + 1) 0 == 0) = false := by simp [hz]
            have e3 : IntKind.i64.wrap ((k : Int) + 1 + 1) = (k : Int) + 1 + 1 := IntWalk.i64_in _ (by omega)
            go_wp2_with fail
            go_roundw
            case rel => exact ⟨k + 1, by omega, by go_num, (fun j h1 h2 => by
              by_cases e : j = k + 1
              · subst e; exact HZK.out
              · exact HNON.out j h1 (by omega)), o9, hb9⟩
            case measure => simp [intOf]; omega
        · obtain rfl : k = y := by omega
          have k0 : ¬ (k : Int) + 1 ≤ (k : Int) := by omega
          clear hget hput
          go_wp2_with fail
          refine bodyPost_ret (v := .tuple #[.slice none 0 0, .int .i64 0, .int .i64 10]) (by simp [results, Tryd.results20, go_sem]) rfl ?_
          exact ⟨.inr (.inr (.inl ⟨m, k, HV.out, HOK.out, HNON.out, rfl⟩)), by first | exact hb5 | (rw [hB]; exact hb5)⟩
    · go_wp2_with fail
      go_loopw [11] (fun i wr => ∃ k : Nat, k ≤ y ∧ i = .int .i64 ((k : Int) + 1) ∧ (∀ j, 1 ≤ j → j ≤ k → getX l j 0 ≠ 0) ∧ Nm.Own wr g 58 (gc m y) ∧ Below B w wr) (fun i _ => y + 1 - (intOf i).toNat)
      case atStart => exact ⟨0, by omega, rfl, (fun j h1 h2 => by omega), o5, hb5⟩
      case round =>
        clear o5 hb5
        obtain ⟨k, hk, rfl, hnon, o5, hb5⟩ := hrel
        have d1 : wr.cell? ⟨g, 1, none⟩ = some (.int .i64 (y : Int)) := o5.cell 1
        have HNON := Lib.hid hnon
        clear hnon
        by_cases hlt : k < y
        · have k0 : (k : Int) + 1 ≤ (y : Int) := by omega
          have hl5 := hl.below (hB ▸ hb5)
          have hg := hget wr hl5 (k + 1) (by omega) (by omega)
          have hpp := fun wr h => hput wr h (k + 1) (by omega) (by omega)
          have ck : ((k + 1 : Nat) : Int) = (k : Int) + 1 := by omega
          rw [ck] at hg
          simp only [ck] at hpp
          clear hget hput
          go_wp2_with fail
          refine hg.mono ?_
          rintro e w7 ⟨rfl, hx⟩
          have hl7 := hl5.below hx
          have o7 := o5.below hx
          have hb7 := hb5.trans (hx.mono (hB ▸ hb5.size))
          have ox := Nm.Own.new w7 27 (ic zX)
          have hgx := grow w7 (Obj.cells (ic zX) 27)
          have hl8 := hl7.below hgx
          have o8 := o7.below hgx
          have hb8 := hb7.trans (hgx.mono (hB ▸ hb7.size))
          have hlt7 := o7.lt
          have hb7s : B ≤ w7.heap.size := (hB ▸ hb7.size)
          clear hl5 hl7 o5 o7 hb5 hb7 hx hgx
          go_wp2_with (refine sto27 (X := getX l (k + 1)) rfl rfl rfl rfl ox ?_)
          intro w9 ox9 s9
          have o9 := s9.own o8 (by omega)
          have hb9 := s9.below hb8 hb7s
          have hl9 := hl.below (hB ▸ hb9)
          have cx : w9.cell? ⟨w7.heap.size, 0, none⟩ = some (.int .i64 (getX l (k + 1) 0)) := ox9.cell 0
          clear s9 o8 hb8 hl8 ox ox9
          by_cases hz : getX l (k + 1) 0 = 0
          · have HFR := Lib.hid (show Fre l y (k + 1) from ⟨by omega, by omega, hz, fun j h1 h2 => HNON.out j h1 (by omega)⟩)
            rw [hz] at cx
            clear hz
            go_wp2_with fail
            refine (hpp _ hl9).mono ?_
            rintro e w10 ⟨⟨A', c', rfl, hr⟩, hx⟩
            have hb10 := hb9.trans (hx.mono (hB ▸ hb9.size))
            have hrm := RS.mono hr (show w.heap.size ≤ w9.heap.size from hb9.size)
            clear hr hx
            go_wp2_with fail
            refine bodyPost_ret (v := .tuple #[.slice A' m c', .int .i64 ((k : Int) + 1), .int .i64 0]) (by simp [results, Tryd.results20, go_sem]) rfl ?_
            exact ⟨.inr (.inr (.inr ⟨m, y, k + 1, A', c', HV.out, HOK.out, HFR.out, by rw [ck], by first | exact hrm | (rw [← hB]; exact hrm)⟩)), by first | exact hb10 | (rw [hB]; exact hb10)⟩
          · have HZK := Lib.hid (show getX l (k + 1) 0 ≠ 0 from hz)
            have hz1 : (getX l (k + 1) 0 == 0) = false := by simp [hz]
            have e3 : IntKind.i64.wrap ((k : Int) + 1 + 1) = (k : Int) + 1 + 1 := IntWalk.i64_in _ (by omega)
            go_wp2_with fail
            go_roundw
            case rel => exact ⟨k + 1, by omega, by go_num, (fun j h1 h2 => by
              by_cases e : j = k + 1
              · subst e; exact HZK.out
              · exact HNON.out j h1 (by omega)), o9, hb9⟩
            case measure => simp [intOf]; omega
        · obtain rfl : k = y := by omega
          have k0 : ¬ (k : Int) + 1 ≤ (k : Int) := by omega
          clear hget hput
          go_wp2_with fail
          refine bodyPost_ret (v := .tuple #[.slice none 0 0, .int .i64 0, .int .i64 10]) (by simp [results, Tryd.results20, go_sem]) rfl ?_
          exact ⟨.inr (.inr (.inl ⟨m, k, HV.out, HOK.out, HNON.out, rfl⟩)), by first | exact hb5 | (rw [hB]; exact hb5)⟩
  · have HV := Lib.hid hv
    clear hv
    go_wp2_with (refine sto24 (cs := gz) rfl rfl rfl rfl og gz_one gz_one ?_)
    intro w5 o5 s5
    have hb5 := s5.below hb2 hx.size
    clear hx hb2 og s5 o5
    go_wp2_with fail
    refine bodyPost_ret (v := .tuple #[.slice none 0 0, .int .i64 0, .int .i64 3]) (by simp [results, Tryd.results20, go_sem]) rfl ?_
    exact ⟨.inl ⟨HV.out, rfl⟩, hb5⟩
end Dw
end Go.Proofs.YtambgmjiafcokaaDoor
