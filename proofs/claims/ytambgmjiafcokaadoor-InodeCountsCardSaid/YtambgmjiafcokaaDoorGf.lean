/-
  THE WALK of the question whether the map fits a plan.
-/
import Derived.Test.YtambgmjiafcokaaDoorGe
namespace Go.Proofs.YtambgmjiafcokaaDoor
set_option linter.unusedVariables false
set_option maxRecDepth 100000
set_option linter.unusedSimpArgs false
open Go.RowKit
namespace Dw
open _root_.Go.Proofs.YtambgmjiafcokaaDoor.Nm
theorem okMap_of {m : List UInt8} (hm : m.length = 128) {x y e : Nat} (he : e % 8 = 0) (h1 : ∀ j, j < Gm.dat y → Gm.bit m j = true) (h2 : ∀ j, x ≤ j → j < e → Gm.bit m j = false) (hx : x ≤ e) :
    (∀ z ∈ m.drop (e / 8), z = 0) ↔ Gm.okMap m x y := by
  rw [rest_zero hm he]
  constructor
  · intro h i hi
    refine ⟨h1 i, fun hxi => ?_⟩
    by_cases hie : i < e
    · exact h2 i hxi hie
    · exact h i hi (by omega)
  · intro h i hi hei
    exact (h i hi).2 (by omega)
set_option maxHeartbeats 2000000 in
theorem mapfits_any (A : Option Addr) (n c : Nat) (l : List ByteArray) (x y : Nat) (w : World) (hl : Tz w A n c l) (h2 : 2 < n) (hs : (nth l 2).size = 128) (hf : Gm.fits x y) :
    Calls Tryd.prog 47 #[.slice A n c, .agg (gc x y)] w fun e w' => (∃ r : Bool, e = .returned (.bool r) ∧ (r = true ↔ Gm.okMap (toL (nth l 2)) x y)) ∧ Below w.heap.size w w' := by
  have hb := grow w (Obj.cells (gc x y) 58)
  have hl1 := hl.below hb
  have o := Nm.Own.new w 58 (gc x y)
  have d0 : (w.alloc (Obj.cells (gc x y) 58)).cell? ⟨w.heap.size, 0, none⟩ = some (.int .i64 (x : Int)) := o.cell 0
  have d5 : (w.alloc (Obj.cells (gc x y) 58)).cell? ⟨w.heap.size, 5, none⟩ = some (.int .i64 ((Gm.dat y : Nat) : Int)) := o.cell 5
  have hD : Gm.dat y ≤ 223 := by obtain ⟨_, _, _, _, _⟩ := hf; omega
  have hX : x ≤ 223 := by obtain ⟨_, _, _, _, _⟩ := hf; omega
  have htk := fun (i : Nat) (hi : i < 1024) => taken_any A n c l i _ hl1.t h2 hs hi
  obtain ⟨bb, off, rfl, hc⟩ := hl1.t.2 (by omega)
  have c2 := hc 2 h2
  have h2' : (2 : Int) < (n : Int) := by omega
  have hm : (toL (nth l 2)).length = 128 := by rw [toL_length]; exact hs
  have HM := Lib.hid hm
  clear hc o hl1 hm
  generalize nth l 2 = T at *
  go_enter Tryd.func47, Tryd.ntmps47
  go_wp2_with fail
  generalize w.alloc (Obj.cells (gc x y) 58) = V at *
  generalize hdy : Gm.dat y = D at *
  go_loop [9] (fun i => ∃ k : Nat, k ≤ D ∧ i = .int .i64 k ∧ ∀ j, j < k → Gm.bit (toL T) j = true) (fun i => D - (intOf i).toNat)
  case atStart => exact ⟨0, Nat.zero_le _, rfl, fun k hk => absurd hk (Nat.not_lt_zero _)⟩
  case round =>
    obtain ⟨k, hk, rfl, hB⟩ := hrel
    have HB := Lib.hid hB
    clear hB
    by_cases hlt : k < D
    · have hp := htk k (by omega)
      have b1 : (k : Int) < (D : Int) := by omega
      cases hbit : Gm.bit (toL T) k with
      | true =>
        rw [hbit] at hp
        have HT := Lib.hid hbit
        clear hbit
        go_wp2_with fail
        refine hp.mono ?_
        rintro e w' ⟨rfl, rfl⟩
        go_wp2_with fail
        go_round
        case rel =>
          refine ⟨k + 1, by omega, by go_num, fun j hj => ?_⟩
          by_cases hjk : j = k
          · rw [hjk]; exact HT.out
          · exact HB.out j (by omega)
        case measure => simp [intOf]; omega
      | false =>
        rw [hbit] at hp
        have HT := Lib.hid hbit
        clear hbit
        go_wp2_with fail
        refine hp.mono ?_
        rintro e w' ⟨rfl, rfl⟩
        go_wp2_with fail
        go_ret
        refine ⟨⟨false, rfl, ?_⟩, hb⟩
        constructor
        · intro h; exact nomatch h
        · intro h
          have := (h k (by omega)).1 (by rw [hdy]; exact hlt)
          rw [HT.out] at this
          exact nomatch this
    · obtain rfl : k = D := by omega
      have H1 := Lib.hid HB.out
      clear HB
      go_wp2_with fail
      go_loop [6] (fun i => ∃ e : Nat, x ≤ e ∧ e ≤ 8 * ((x + 7) / 8) ∧ i = .int .i64 e ∧ ∀ j, x ≤ j → j < e → Gm.bit (toL T) j = false) (fun i => 8 * ((x + 7) / 8) - (intOf i).toNat)
      case atStart => exact ⟨x, Nat.le_refl _, by omega, rfl, fun j h1 h2 => absurd h1 (by omega)⟩
      case round =>
        obtain ⟨e, hx, he, rfl, hB⟩ := hrel
        have HB := Lib.hid hB
        clear hB
        have hM := (show 8 * ((x + 7) / 8) ≤ 224 by omega)
        have hE : e ≤ 224 := by omega
        have t8 : (e : Int).tmod 8 = (e : Int) % 8 := Int.tmod_eq_emod_of_nonneg (by omega)
        by_cases h8 : e % 8 = 0
        · have t0 : (e : Int) % 8 = 0 := by omega
          have H8 := Lib.hid h8
          have q1 : IntKind.i64.wrap ((e : Int) / 8) = (e : Int) / 8 := IntWalk.i64_in _ (by omega)
          have q2 : (0 : Int) ≤ (e : Int) / 8 ∧ (e : Int) / 8 ≤ 128 := by omega
          have q3 : ((e : Int) / 8).toNat = e / 8 := rfl
          have hz : (T.extract (e / 8) 128).size ≤ 9223372036854775807 := by rw [ByteArray.size_extract]; omega
          have htr := Tryd.strings_Trim_one (T.extract (e / 8) 128) 0 (by decide) V hz
          have hex : (T.extract (e / 8) 128).data.toList = (toL T).drop (e / 8) := by
            show toL _ = _
            rw [toL_extract, List.take_of_length_le (by rw [List.length_drop, HM.out]; omega)]
          rw [hex] at htr
          have hok := okMap_of (y := y) HM.out h8 (fun j hj => H1.out j (by omega)) (fun j a b => HB.out j a b) hx
          rw [← trim_zero] at hok
          have HOK := Lib.hid hok
          clear hok hex hz h8 htk t8
          generalize hTB : Lib.trimB ((toL T).drop (e / 8)) 0 = TB at *
          clear hTB
          go_wp2_with fail
          refine htr.mono ?_
          rintro e' w' ⟨rfl, hw⟩
          have hb' : Below w.heap.size w w' := by
            rcases hw with rfl | rfl
            · exact hb
            · exact hb.drew
          clear hw
          cases TB with
          | nil =>
            go_wp2_with fail
            go_ret
            exact ⟨⟨true, rfl, by rw [← HOK.out]; simp⟩, hb'⟩
          | cons u TB =>
            go_wp2_with fail
            go_ret
            exact ⟨⟨false, rfl, by rw [← HOK.out]; simp⟩, hb'⟩
        · have t0 : ¬ (e : Int) % 8 = 0 := by omega
          have hp := htk e (by omega)
          have H8 := Lib.hid h8
          clear h8
          cases hbit : Gm.bit (toL T) e with
          | true =>
            rw [hbit] at hp
            have HT := Lib.hid hbit
            clear hbit
            go_wp2_with fail
            refine hp.mono ?_
            rintro e' w' ⟨rfl, rfl⟩
            go_wp2_with fail
            go_ret
            refine ⟨⟨false, rfl, ?_⟩, hb⟩
            constructor
            · intro h; exact nomatch h
            · intro h
              have := (h e (by omega)).2 hx
              rw [HT.out] at this
              exact nomatch this
          | false =>
            rw [hbit] at hp
            have HT := Lib.hid hbit
            clear hbit
            go_wp2_with fail
            refine hp.mono ?_
            rintro e' w' ⟨rfl, rfl⟩
            go_wp2_with fail
            go_round
            case rel =>
              have h8 := H8.out
              refine ⟨e + 1, by omega, by omega, by go_num, fun j h1 hj => ?_⟩
              by_cases hjk : j = e
              · rw [hjk]; exact HT.out
              · exact HB.out j h1 (by omega)
            case measure => have h8 := H8.out; simp [intOf]; omega
end Dw
end Go.Proofs.YtambgmjiafcokaaDoor
