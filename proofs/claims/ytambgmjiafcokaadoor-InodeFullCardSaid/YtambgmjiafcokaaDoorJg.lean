/-
  THE WALK of the law of a fresh volume on which all inodes are taken.
-/
import Derived.Test.YtambgmjiafcokaaDoorJf
import Derived.OpenShut
namespace Go.Proofs.YtambgmjiafcokaaDoor
set_option linter.unusedVariables false
set_option maxRecDepth 100000
set_option linter.unusedSimpArgs false
open Go.RowKit
theorem nat_u8 {n : Int} (h : (Lit.int .u8 n).wf = true) : ∃ m : Nat, n = (m : Int) ∧ m < 256 := by
  simp [Lit.wf, IntKind.min, IntKind.max, IntKind.signed, IntKind.bits] at h
  obtain ⟨m, rfl⟩ := Int.eq_ofNat_of_zero_le h.1
  exact ⟨m, rfl, by omega⟩
namespace Dw
open _root_.Go.Proofs.YtambgmjiafcokaaDoor.Nm
theorem zX_fit : Ni.Fit zX := fun q hq => ⟨Int.le_refl _, by
  have : 0 < 256 ^ Ni.sz q := Nat.pow_pos (by decide)
  show (0 : Int) < _
  omega⟩
/-- the first k are taken -/
def Tk (L : List ByteArray) (M k : Nat) : Prop := ∀ n, 1 ≤ n → n ≤ M → (getX L n 0 ≠ 0 ↔ n ≤ k)
theorem Tk.fre {L : List ByteArray} {M k : Nat} (h : Tk L M k) (hk : k < M) : Fre L M (k + 1) := by
  refine ⟨by omega, by omega, ?_, fun j h1 h2 => (h j h1 (by omega)).2 (by omega)⟩
  apply Classical.byContradiction
  intro h0
  have := (h (k + 1) (by omega) (by omega)).1 h0
  omega
theorem Tk.next {L : List ByteArray} {M k : Nat} (h : Tk L M k) (hk : k < M) (hv : Vol L 60 M) {o : Int} (ho : okNew 1 o) : Tk (putL L (k + 1) (newX 1 o)) M (k + 1) := fun n h1 h2 => by
  by_cases e : n = k + 1
  · subst e
    rw [get_put hv h1 h2 (newX_fit ho) (by omega)]
    exact ⟨fun _ => Nat.le_refl _, fun _ => by show (1 : Int) ≠ 0; omega⟩
  · rw [get_put_ne hv (by omega) (by omega) _ h1 (Ne.symm e) (by omega), h n h1 h2]
    omega
theorem Tk.non {L : List ByteArray} {M : Nat} (h : Tk L M M) : Non L M := fun j h1 h2 => (h j h1 h2).2 h2
theorem Tk.again {L : List ByteArray} {M j : Nat} (h : Tk L M M) (hv : Vol L 60 M) (h1 : 1 ≤ j) (h2 : j ≤ M) : Fre (putL L j zX) M j := by
  refine ⟨h1, h2, get_put hv h1 h2 zX_fit (by omega), fun i i1 i2 => ?_⟩
  rw [get_put_ne hv h1 h2 zX i1 (by omega) (by omega)]
  exact (h i i1 (by omega)).2 (by omega)
set_option maxHeartbeats 8000000 in
theorem full_any (a b c : Nat) (ha : a < 256) (hb' : b < 256) (hc' : c < 256) (w : World) :
    Calls Tryd.prog 8 #[.int .u8 (a : Int), .int .u8 (b : Int), .int .u8 (c : Int)] w fun e w' => e = .returned (.bool true) ∧ Below w.heap.size w w' := by
  have m1 : (a : Int).tmod 61 = ((a % 61 : Nat) : Int) := rfl
  have m1' : (a : Int) % 61 = ((a % 61 : Nat) : Int) := rfl
  have m2 : (b : Int).tmod 16 = ((b % 16 : Nat) : Int) := rfl
  have m2' : (b : Int) % 16 = ((b % 16 : Nat) : Int) := rfl
  have w1 : IntKind.i64.wrap (a : Int) = (a : Int) := IntWalk.i64_in _ (by omega)
  have w2 : IntKind.i64.wrap (b : Int) = (b : Int) := IntWalk.i64_in _ (by omega)
  have w3 : IntKind.i64.wrap (c : Int) = (c : Int) := IntWalk.i64_in _ (by omega)
  have la : a % 61 < 61 := Nat.mod_lt _ (by omega)
  have lb : b % 16 < 16 := Nat.mod_lt _ (by omega)
  generalize a % 61 = p at *
  generalize b % 16 = o at *
  obtain ⟨M, hM⟩ : ∃ M : Nat, M = 4 + p := ⟨_, rfl⟩
  have hMi : 4 + (p : Int) = (M : Int) := by omega
  have w4 : IntKind.i64.wrap (4 + (p : Int)) = (M : Int) := by rw [hMi]; exact IntWalk.i64_in _ (by omega)
  have w5 : IntKind.i64.wrap (p : Int) = (p : Int) := IntWalk.i64_in _ (by omega)
  have w6 : IntKind.i64.wrap (o : Int) = (o : Int) := IntWalk.i64_in _ (by omega)
  have hok : okNew 1 (o : Int) := by unfold okNew; omega
  have hok2 : okNew 2 0 := by unfold okNew; omega
  have hok3 : okNew 2 1 := by unfold okNew; omega
  have hf : Gm.fits 60 M := by unfold Gm.fits Gm.dat; omega
  have m3 : (c : Int).tmod (M : Int) = ((c % M : Nat) : Int) := rfl
  have m3' : (c : Int) % (M : Int) = ((c % M : Nat) : Int) := rfl
  have lc : c % M < M := Nat.mod_lt _ (by omega)
  generalize c % M = r at *
  obtain ⟨J, hJ⟩ : ∃ J : Nat, J = 1 + r := ⟨_, rfl⟩
  have hJi : 1 + (r : Int) = (J : Int) := by omega
  have w7 : IntKind.i64.wrap (1 + (r : Int)) = (J : Int) := by rw [hJi]; exact IntWalk.i64_in _ (by omega)
  have w8 : IntKind.i64.wrap (r : Int) = (r : Int) := IntWalk.i64_in _ (by omega)
  have hM0 : ¬ (M : Int) = 0 := by omega
  have hM1 : ((M : Int) == 0) = false := by simp; omega
  have hlM : M ≤ 64 := by omega
  have hl1 : 4 ≤ M := by omega
  have hJ1 : 1 ≤ J ∧ J ≤ M := by omega
  clear hJ hM hMi hJi
  go_enter Tryd.func8, Tryd.ntmps8
  go_wp2_with fail
  refine (alive_any _).mono ?_
  rintro e w1 ⟨rfl, hb⟩
  go_wp2_with fail
  refine (format_any 60 (M : Int) _).mono ?_
  rintro e w2 ⟨hfo, hx⟩
  replace hb := hb.trans (hx.mono hb.size)
  clear hx
  rcases hfo with ⟨K, hK, hE, _⟩ | ⟨x, y, A', c', hx, hy, _, rfl, hr⟩
  · exact absurd (hE.symm.trans (Gm.planE_fits hf)) hK
  · obtain rfl : x = 60 := by omega
    obtain rfl : y = M := by omega
    have hz := Tz.of hr (by omega)
    have hv0 := fmt_vol hf
    have htk : Tk (fmtL 60 y) y 0 := fun n h1 h2 => by
      rw [fmt_free hf h1 h2 0]
      omega
    clear hr
    go_wp2_with fail
    go_loopw [8, 10] (fun s i wr => ∃ (k : Nat) (A : Option Addr) (c : Nat) (L : List ByteArray), k ≤ y ∧ i = .int .i64 ((k : Int) + 1) ∧ s = .slice A 60 c ∧ Tz wr A 60 c L ∧ Vol L 60 y ∧ Tk L y k ∧ Below w.heap.size w wr) (fun _ i _ => y + 1 - (intOf i).toNat)
    case atStart => exact ⟨0, A', c', fmtL 60 y, by omega, rfl, rfl, hz, hv0, htk, hb⟩
    case round =>
      clear hz hv0 htk hb
      obtain ⟨k, A, cc, L, hk, rfl, rfl, hz, hv, htk, hb⟩ := hrel
      by_cases hlt : k < y
      · have k0 : (k : Int) + 1 ≤ (y : Int) := by omega
        have e3 : IntKind.i64.wrap ((k : Int) + 1 + 1) = (k : Int) + 1 + 1 := IntWalk.i64_in _ (by omega)
        have hfr := htk.fre hlt
        have htk2 := htk.next hlt hv hok
        have hv2 := put_vol hv (show 1 ≤ k + 1 by omega) (show k + 1 ≤ y by omega) (newX 1 (o : Int))
        have hlen := allL_full (putL L (k + 1) (newX 1 (o : Int))) (k + 1) y (by omega) htk2
        go_wp2_with fail
        refine (new_any A 60 cc L 1 (o : Int) _ hz hv.blk.lit).mono ?_
        rintro e w3 ⟨hn, hx⟩
        obtain ⟨A3, n3, c3, i3, q3, L3, rfl, ht3, p3⟩ := new_p hn
        obtain ⟨rfl, rfl, rfl, rfl⟩ := NwP.uniq (.inr (.inr (.inr ⟨60, y, k + 1, hv, hok, hfr, rfl, rfl, rfl, rfl⟩))) p3
        replace hb := hb.trans (hx.mono hb.size)
        clear hn hx p3 hz hv htk hfr
        have ck : ((k + 1 : Nat) : Int) = (k : Int) + 1 := by omega
        have hkk : ((k : Int) + 1 != (k : Int) + 1) = false := by simp
        generalize hLg : putL L (k + 1) (newX 1 (o : Int)) = L3 at *
        rw [ck]
        go_wp2_with fail
        refine (all_any A3 60 c3 L3 _ ht3 hv2.blk.lit).mono ?_
        rintro e w4 ⟨hp, hx⟩
        obtain ⟨A4, n4, c4, La, rfl, r4, pa⟩ := all_p hp
        obtain rfl := AlP.uniq (.inr ⟨60, y, hv2, rfl⟩) pa
        obtain rfl : k + 1 = n4 := hlen.symm.trans r4.1
        replace ht3 := ht3.below hx
        replace hb := hb.trans (hx.mono hb.size)
        clear hp hx pa r4 hlen
        go_wp2_with fail
        go_roundw
        case rel => exact ⟨k + 1, A3, c3, L3, by omega, by go_num, rfl, ht3, hv2, htk2, hb⟩
        case measure => simp [intOf]; omega
      · obtain rfl : k = y := by omega
        have k0 : ¬ (k : Int) + 1 ≤ (k : Int) := by omega
        have hnon := htk.non
        have hfa := htk.again hv hJ1.1 hJ1.2
        have hv2 := put_vol hv hJ1.1 hJ1.2 zX
        have hput := fun wr (h : Tz wr A 60 cc L) => put_volc h hv hJ1.1 hJ1.2 (J : Int) rfl zX_fit
        have hput := fun wr (h : Tz wr A 60 cc L) => show Calls Tryd.prog 16 #[.slice A 60 cc, .int .i64 (J : Int), .agg #[.int .i64 0, .int .i64 0, .int .i64 0, .int .i64 0, .int .i64 0, .int .i64 0, .int .i64 0, .int .i64 0, .int .i64 0, .int .i64 0, .int .i64 0, .int .i64 0]] wr _ from hput wr h
        go_wp2_with fail
        refine (new_any A 60 cc L 2 0 _ hz hv.blk.lit).mono ?_
        rintro e w3 ⟨hn, hx⟩
        obtain ⟨A3, n3, c3, i3, q3, L3, rfl, ht3, p3⟩ := new_p hn
        obtain ⟨rfl, rfl, rfl, rfl⟩ := NwP.uniq (.inr (.inr (.inl ⟨60, k, hv, hok2, hnon, rfl, rfl, rfl, rfl⟩))) p3
        replace hb := hb.trans (hx.mono hb.size)
        replace hz := hz.below hx
        clear hn hx p3 ht3 htk hnon
        go_wp2_with fail
        refine (hput _ hz).mono ?_
        rintro e w4 ⟨⟨A4, c4, rfl, hr4⟩, hx⟩
        have ht4 := Tz.of hr4 (by omega)
        replace hb := hb.trans (hx.mono hb.size)
        clear hx hr4 hz hput hv
        go_wp2_with fail
        refine (new_any A4 60 c4 _ 2 1 _ ht4 hv2.blk.lit).mono ?_
        rintro e w5 ⟨hn, hx⟩
        obtain ⟨A5, n5, c5, i5, q5, L5, rfl, ht5, p5⟩ := new_p hn
        obtain ⟨rfl, rfl, rfl, rfl⟩ := NwP.uniq (.inr (.inr (.inr ⟨60, k, J, hv2, hok3, hfa, rfl, rfl, rfl, rfl⟩))) p5
        replace hb := hb.trans (hx.mono hb.size)
        have hJJ : ((J : Int) == (J : Int)) = true := by simp
        clear hn hx p5 ht5 ht4 hv2 hfa
        go_wp2_with fail
        go_ret
        exact ⟨rfl, hb⟩
end Dw
end Go.Proofs.YtambgmjiafcokaaDoor
