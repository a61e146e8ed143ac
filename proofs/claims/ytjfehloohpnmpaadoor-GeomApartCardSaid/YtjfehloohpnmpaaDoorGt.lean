/-
  THE WALK of a volume of a size after acts.
-/
import Derived.Test.YtjfehloohpnmpaaDoorOj
namespace Go.Proofs.YtjfehloohpnmpaaDoor
set_option linter.unusedVariables false
set_option maxRecDepth 100000
set_option linter.unusedSimpArgs false
open Go.RowKit
namespace Dw
open _root_.Go.Proofs.YtjfehloohpnmpaaDoor.Nm
/-- a volume of its own -/
def VolIs (B : Nat) (e : Ending) (w' : World) : Prop := ∃ A c l x y, e = .returned (.slice A x c) ∧ Vol l x y ∧ RS w' B A x c l
theorem size_fits (a b : Nat) : Gm.fits (16 + a % 40) (4 + b % 12) := by
  unfold Gm.fits Gm.dat
  omega
theorem rformat_fits (x y : Nat) (hf : Gm.fits x y) (w : World) : Calls Tryd.prog 11 #[.int .i64 (x : Int), .int .i64 (y : Int)] w fun e w' => (∃ A c, e = .returned (.tuple #[.slice A x c, .int .i64 0]) ∧ RS w' w.heap.size A x c (fmtL x y)) ∧ Below w.heap.size w w' := by
  refine (rformat_any x y w).mono ?_
  rintro e w' ⟨h, hb⟩
  refine ⟨?_, hb⟩
  rcases h with ⟨K, hK, hE', _⟩ | ⟨x', y', A', c', hx, hy, _, rfl, hr⟩
  · rw [Gm.planE_fits hf] at hE'
    exact absurd hE'.symm hK
  · obtain rfl : x = x' := by omega
    obtain rfl : y = y' := by omega
    exact ⟨A', c', rfl, hr⟩
set_option maxHeartbeats 2000000 in
theorem volume_any (a b : Nat) (A : Option Addr) (n c : Nat) (K : List Int) (w : World) (ha : a < 256) (hb' : b < 256) (hk : Hz w A n K) :
    Calls Tryd.prog 24 #[.agg (b2 a b), .slice A n c] w fun e w' => VolIs w.heap.size e w' ∧ Below w.heap.size w w' := by
  have hf := size_fits a b
  have hg := grow w (Obj.cells (b2 a b) 39)
  have o := Nm.Own.new w 39 (b2 a b)
  have d0 : (w.alloc (Obj.cells (b2 a b) 39)).cell? ⟨w.heap.size, 0, none⟩ = some (.int .u8 (a : Int)) := o.cell 0
  have d1 : (w.alloc (Obj.cells (b2 a b) 39)).cell? ⟨w.heap.size, 1, none⟩ = some (.int .u8 (b : Int)) := o.cell 1
  have hfm : ∀ wr, Calls Tryd.prog 11 #[.int .i64 (16 + (a : Int) % 40), .int .i64 (4 + (b : Int) % 12)] wr fun e w' => (∃ A c, e = .returned (.tuple #[.slice A (16 + a % 40) c, .int .i64 0]) ∧ RS w' wr.heap.size A (16 + a % 40) c (fmtL (16 + a % 40) (4 + b % 12))) ∧ Below wr.heap.size wr w' := fun wr => rformat_fits _ _ hf wr
  have hv := fmt_vol hf
  have e3 : IntKind.i64.wrap (a : Int) = (a : Int) := IntWalk.i64_in _ (by omega)
  have e4 : IntKind.i64.wrap (b : Int) = (b : Int) := IntWalk.i64_in _ (by omega)
  have hlen := hk.len
  have hkm := hk.m
  clear o
  go_enter Tryd.func24, Tryd.ntmps24
  go_wp2_with fail
  generalize 16 + a % 40 = x at *
  generalize 4 + b % 12 = y at *
  refine (hfm _).mono ?_
  rintro e w1 ⟨⟨A1, c1, rfl, hr⟩, hx⟩
  have hb1 := hg.trans (hx.mono hg.size)
  have hr := hr.mono hg.size
  generalize fmtL x y = l0 at *
  clear hfm d0 d1 hx hg e3 e4
  go_wp2_with fail
  go_loopw [5, 28] (fun v i wr => ∃ (k : Nat) (A' : Option Addr) (c' : Nat) (l : List ByteArray), k ≤ n ∧ i = .int .i64 k ∧ v = .slice A' x c' ∧ Vol l x y ∧ RS wr w.heap.size A' x c' l ∧ Below w.heap.size w wr) (fun _ i _ => n - (intOf i).toNat)
  case atStart => exact ⟨0, A1, c1, l0, Nat.zero_le _, rfl, rfl, hv, hr, hb1⟩
  case round =>
    clear hr hb1 hv
    obtain ⟨k, A', c', l, hkn, rfl, rfl, hv, hr, hb⟩ := hrel
    by_cases hlt : k < n
    · have k0 : (k : Int) < (n : Int) := by omega
      obtain ⟨bb, off, rfl, hc⟩ := (hk.below hb).at' (by omega)
      have c1 := hc k hlt
      have hz : -32768 ≤ K.getD k 0 ∧ K.getD k 0 ≤ 32767 := by
        rw [List.getD_eq_getElem?_getD, List.getElem?_eq_getElem (by omega)]
        exact hk.r _ (List.getElem_mem _)
      have hlx := hv.lt
      have z := Tz.of hr (by omega)
      have htk := rtake_any A' x c' l wr z hv.blk.lit
      have HV := Lib.hid hv
      clear hc hv
      generalize K.getD k 0 = q at *
      go_wp2_with fail
      refine htk.mono ?_
      rintro e w2 ⟨ht, hx2⟩
      have hb2 := hb.trans (hx2.mono hb.size)
      have hr2 := hr.below hx2
      by_cases hq : 0 ≤ q
      · have e7 : IntKind.i64.wrap q = q := IntWalk.i64_in _ (by omega)
        have hgv := fun wr hl => rgive_any A' x c' l q wr hl HV.out.blk.lit
        have z2 := z.below hx2
        obtain ⟨A2, n2, c2, k2, e2, L2, rfl, _, _⟩ := take_p ht
        clear ht htk hb hr z
        go_wp2_with fail
        refine (hgv _ z2).mono ?_
        rintro e w3 ⟨hgi, hx3⟩
        have hb3 := hb2.trans (hx3.mono hb2.size)
        have hr3 := hr2.below hx3
        rcases hgi with ⟨hn, _⟩ | ⟨b', m', _, _, rfl⟩ | ⟨b', m', k', _, _, _, _, _, rfl⟩ | ⟨b', m', k', A3, c3, hv3, rfl, h1, h2, _, rfl, hr4⟩
        · exact absurd HV.out (hn _ _)
        · go_wp2_with fail
          go_roundw
          case rel => exact ⟨k + 1, A', c', l, by omega, by go_num, rfl, HV.out, hr3, hb3⟩
          case measure => simp [intOf]; omega
        · go_wp2_with fail
          go_roundw
          case rel => exact ⟨k + 1, A', c', l, by omega, by go_num, rfl, HV.out, hr3, hb3⟩
          case measure => simp [intOf]; omega
        · obtain ⟨rfl, rfl⟩ := HV.out.uniq hv3
          go_wp2_with fail
          go_roundw
          case rel => exact ⟨k + 1, A3, c3, _, by omega, by go_num, rfl, turn_vol hv3 h1 h2, hr4.mono hb2.size, hb3⟩
          case measure => simp [intOf]; omega
      · have hq' : q < 0 := by omega
        rcases ht with ⟨hn, _⟩ | ⟨b', m', _, _, rfl⟩ | ⟨b', m', i', A2, c2, hv2, hnx, rfl, hr4⟩
        · exact absurd HV.out (hn _ _)
        · go_wp2_with fail
          go_roundw
          case rel => exact ⟨k + 1, A', c', l, by omega, by go_num, rfl, HV.out, hr2, hb2⟩
          case measure => simp [intOf]; omega
        · obtain ⟨rfl, rfl⟩ := HV.out.uniq hv2
          go_wp2_with fail
          go_roundw
          case rel => exact ⟨k + 1, A2, c2, _, by omega, by go_num, rfl, take_vol hv2 hnx.1 hnx.2.1, hr4.mono hb.size, hb2⟩
          case measure => simp [intOf]; omega
    · obtain rfl : k = n := by omega
      go_wp2_with fail
      go_ret
      exact ⟨⟨A', c', l, x, y, rfl, hv, hr⟩, hb⟩
end Dw
end Go.Proofs.YtjfehloohpnmpaaDoor
