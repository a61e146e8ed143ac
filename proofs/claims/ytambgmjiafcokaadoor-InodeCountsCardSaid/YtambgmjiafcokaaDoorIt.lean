/-
  THE WALK of the document's question whether an inode fits (Fits).
-/
import Derived.Test.YtambgmjiafcokaaDoorIs
namespace Go.Proofs.YtambgmjiafcokaaDoor
set_option linter.unusedVariables false
set_option maxRecDepth 100000
set_option linter.unusedSimpArgs false
open Go.RowKit
namespace Dw
open _root_.Go.Proofs.YtambgmjiafcokaaDoor.Nm
def fk (X : Nat → Int) : Nat → Bool
  | 0 => true
  | k + 1 => fk X k && wi (X (4 + k)) 65535
theorem fk_iff (X : Nat → Int) : ∀ k, fk X k = true ↔ ∀ j, j < k → 0 ≤ X (4 + j) ∧ X (4 + j) ≤ 65535
  | 0 => ⟨fun _ j hj => by omega, fun _ => rfl⟩
  | k + 1 => by
    have e : fk X (k + 1) = (fk X k && wi (X (4 + k)) 65535) := rfl
    rw [e, Bool.and_eq_true, fk_iff X k]
    unfold wi
    rw [decide_eq_true_iff]
    constructor
    · rintro ⟨h1, h2⟩ j hj
      by_cases e : j = k
      · subst e; exact h2
      · exact h1 j (by omega)
    · intro h
      exact ⟨fun j hj => h j (by omega), h k (by omega)⟩
theorem fit_iff (X : Nat → Int) : ((wi (X 0) 255 && wi (X 1) 255 && wi (X 2) 65535 && wi (X 3) 4294967295 && wi (X 10) 65535 && wi (X 11) 65535) && fk X 6) = true ↔ Ni.Fit X := by
  rw [Bool.and_eq_true, fk_iff]
  unfold wi
  simp only [Bool.and_eq_true, decide_eq_true_iff]
  constructor
  · rintro ⟨⟨⟨⟨⟨⟨h0, h1⟩, h2⟩, h3⟩, h10⟩, h11⟩, h⟩ q hq
    have h4 := h 0 (by omega)
    have h5 := h 1 (by omega)
    have h6 := h 2 (by omega)
    have h7 := h 3 (by omega)
    have h8 := h 4 (by omega)
    have h9 := h 5 (by omega)
    match q, hq with
    | 0, _ => exact ⟨h0.1, by show X 0 < 256; omega⟩
    | 1, _ => exact ⟨h1.1, by show X 1 < 256; omega⟩
    | 2, _ => exact ⟨h2.1, by show X 2 < 65536; omega⟩
    | 3, _ => exact ⟨h3.1, by show X 3 < 4294967296; omega⟩
    | 4, _ => exact ⟨h4.1, by show X 4 < 65536; exact Int.lt_of_le_of_lt h4.2 (by decide)⟩
    | 5, _ => exact ⟨h5.1, by show X 5 < 65536; exact Int.lt_of_le_of_lt h5.2 (by decide)⟩
    | 6, _ => exact ⟨h6.1, by show X 6 < 65536; exact Int.lt_of_le_of_lt h6.2 (by decide)⟩
    | 7, _ => exact ⟨h7.1, by show X 7 < 65536; exact Int.lt_of_le_of_lt h7.2 (by decide)⟩
    | 8, _ => exact ⟨h8.1, by show X 8 < 65536; exact Int.lt_of_le_of_lt h8.2 (by decide)⟩
    | 9, _ => exact ⟨h9.1, by show X 9 < 65536; exact Int.lt_of_le_of_lt h9.2 (by decide)⟩
    | 10, _ => exact ⟨h10.1, by show X 10 < 65536; omega⟩
    | 11, _ => exact ⟨h11.1, by show X 11 < 65536; omega⟩
    | n + 12, h => omega
  · intro h
    have g := fun q hq => h q hq
    have h0 : 0 ≤ X 0 ∧ X 0 < 256 := h 0 (by omega)
    have h1 : 0 ≤ X 1 ∧ X 1 < 256 := h 1 (by omega)
    have h2 : 0 ≤ X 2 ∧ X 2 < 65536 := h 2 (by omega)
    have h3 : 0 ≤ X 3 ∧ X 3 < 4294967296 := h 3 (by omega)
    have h10 : 0 ≤ X 10 ∧ X 10 < 65536 := h 10 (by omega)
    have h11 : 0 ≤ X 11 ∧ X 11 < 65536 := h 11 (by omega)
    refine ⟨⟨⟨⟨⟨⟨by omega, by omega⟩, by omega⟩, by omega⟩, by omega⟩, by omega⟩, fun j hj => ?_⟩
    have hs : Ni.sz (4 + j) = 2 := by unfold Ni.sz; rw [if_neg (by omega), if_neg (by omega)]
    have := h (4 + j) (by omega)
    rw [hs, show (256 : Nat) ^ 2 = 65536 from rfl] at this
    omega
set_option maxHeartbeats 2000000 in
theorem rfits_any (X : Nat → Int) (w : World) : Calls Tryd.prog 32 #[.agg (ic X)] w fun e w' => (∃ v : Bool, e = .returned (.bool v) ∧ (v = true ↔ Ni.Fit X)) ∧ Below w.heap.size w w' := by
  obtain ⟨B, hB⟩ : ∃ B, w.heap.size = B := ⟨_, rfl⟩
  have hw0 := fun wr => within_any (X 0) 255 wr
  have hw1 := fun wr => within_any (X 1) 255 wr
  have hw2 := fun wr => within_any (X 2) 65535 wr
  have hw3 := fun wr => within_any (X 3) 4294967295 wr
  have hw4 := fun wr => within_any (X 10) 65535 wr
  have hw5 := fun wr => within_any (X 11) 65535 wr
  have HI := Lib.hid (fit_iff X)
  have o0 := Nm.Own.new w 27 (ic X)
  have b0 := grow w (Obj.cells (ic X) 27)
  rw [hB] at o0 b0
  have c0' : (w.alloc (Obj.cells (ic X) 27)).cell? ⟨B, 0, none⟩ = some (.int .i64 (X 0)) := o0.cell 0
  have c1' : (w.alloc (Obj.cells (ic X) 27)).cell? ⟨B, 2, none⟩ = some (.int .i64 (X 1)) := o0.cell 2
  have c2' : (w.alloc (Obj.cells (ic X) 27)).cell? ⟨B, 1, none⟩ = some (.int .i64 (X 2)) := o0.cell 1
  have c3' : (w.alloc (Obj.cells (ic X) 27)).cell? ⟨B, 3, none⟩ = some (.int .i64 (X 3)) := o0.cell 3
  have c4' : (w.alloc (Obj.cells (ic X) 27)).cell? ⟨B, 10, none⟩ = some (.int .i64 (X 10)) := o0.cell 10
  have c5' : (w.alloc (Obj.cells (ic X) 27)).cell? ⟨B, 11, none⟩ = some (.int .i64 (X 11)) := o0.cell 11
  generalize wi (X 0) 255 = c0 at *
  generalize wi (X 1) 255 = c1 at *
  generalize wi (X 2) 65535 = c2 at *
  generalize wi (X 3) 4294967295 = c3 at *
  generalize wi (X 10) 65535 = c4 at *
  generalize wi (X 11) 65535 = c5 at *
  obtain ⟨ok, hok⟩ : ∃ ok, ok = (c0 && c1 && c2 && c3 && c4 && c5) := ⟨_, rfl⟩
  have HOK := Lib.hid hok
  rw [← hok] at HI
  clear hok
  go_enter Tryd.func32, Tryd.ntmps32
  go_upto_region 1 with fail
  generalize w.alloc (Obj.cells (ic X) 27) = W0 at *
  go_cut [3] from 5 (fun s3 wc => s3 = .bool ok ∧ wc = W0)
  case first =>
    go_wp2_with fail
    refine (hw0 _).mono ?_
    rintro e w0 ⟨rfl, rfl⟩
    cases c0
    · go_wp2_with fail
      go_meet
      case rel => exact ⟨by rw [HOK.out] <;> rfl, rfl⟩
    · go_wp2_with fail
      refine (hw1 _).mono ?_
      rintro e w1 ⟨rfl, rfl⟩
      cases c1
      · go_wp2_with fail
        go_meet
        case rel => exact ⟨by rw [HOK.out] <;> rfl, rfl⟩
      · go_wp2_with fail
        refine (hw2 _).mono ?_
        rintro e w2 ⟨rfl, rfl⟩
        cases c2
        · go_wp2_with fail
          go_meet
          case rel => exact ⟨by rw [HOK.out] <;> rfl, rfl⟩
        · go_wp2_with fail
          refine (hw3 _).mono ?_
          rintro e w3 ⟨rfl, rfl⟩
          cases c3
          · go_wp2_with fail
            go_meet
            case rel => exact ⟨by rw [HOK.out] <;> rfl, rfl⟩
          · go_wp2_with fail
            refine (hw4 _).mono ?_
            rintro e w4 ⟨rfl, rfl⟩
            cases c4
            · go_wp2_with fail
              go_meet
              case rel => exact ⟨by rw [HOK.out] <;> rfl, rfl⟩
            · go_wp2_with fail
              refine (hw5 _).mono ?_
              rintro e w5 ⟨rfl, rfl⟩
              cases c5
              · go_wp2_with fail
                go_meet
                case rel => exact ⟨by rw [HOK.out] <;> rfl, rfl⟩
              · go_wp2_with fail
                go_meet
                case rel => exact ⟨by rw [HOK.out] <;> rfl, rfl⟩
  case rest =>
    obtain ⟨rfl, rfl⟩ := hcut
    clear hw0 hw1 hw2 hw3 hw4 hw5 c0' c1' c2' c3' c4' c5'
    go_wp2_with fail
    go_loopw [3, 4] (fun s i wr => ∃ k : Nat, k ≤ 6 ∧ i = .int .i64 k ∧ s = .bool (ok && fk X k) ∧ Nm.Own wr B 27 (ic X) ∧ Below B w wr) (fun _ i _ => 6 - (intOf i).toNat)
    case atStart => exact ⟨0, by omega, rfl, by simp [fk], o0, b0⟩
    case round =>
      clear o0 b0
      obtain ⟨k, hk, rfl, rfl, og, hb1⟩ := hrel
      have HFK := Lib.hid (show (ok && fk X (k + 1)) = ((ok && fk X k) && wi (X (4 + k)) 65535) from (Bool.and_assoc _ _ _).symm)
      by_cases hlt : k < 6
      · have hwk := fun wr => within_any (X (4 + k)) 65535 wr
        have k0 : (k : Int) < 6 := by omega
        have k1 : 0 ≤ (k : Int) := by omega
        have e3 : IntKind.i64.wrap ((k : Int) + 1) = (k : Int) + 1 := IntWalk.i64_in _ (by omega)
        have cl4 : Ni.cl (4 + k) = 4 + k := by unfold Ni.cl; rw [if_neg (by omega), if_neg (by omega)]
        have y5 : wr.cell? ⟨B, 4 + k, none⟩ = some (.int .i64 (X (4 + k))) := by
          have := (og.cell (Ni.cl (4 + k))).trans (ic_get _ (4 + k) (by omega))
          rwa [cl4] at this
        generalize wi (X (4 + k)) 65535 = d at *
        have HFD := Lib.hid (show fk X (k + 1) = fk X (k + 1) from rfl)
        generalize (ok && fk X k) = b at *
        cases b
        · go_wp2_with fail
          go_roundw
          case rel => exact ⟨k + 1, by omega, by go_num, by rw [HFK.out]; rfl, og, hb1⟩
          case measure => simp [intOf]; omega
        · go_wp2_with fail
          refine (hwk _).mono ?_
          rintro e w5 ⟨rfl, rfl⟩
          go_wp2_with fail
          go_roundw
          case rel => exact ⟨k + 1, by omega, by go_num, by rw [HFK.out]; simp, og, hb1⟩
          case measure => simp [intOf]; omega
      · obtain rfl : k = 6 := by omega
        go_wp2_with fail
        go_ret
        exact ⟨⟨_, rfl, HI.out⟩, by rw [hB]; exact hb1⟩
end Dw
end Go.Proofs.YtambgmjiafcokaaDoor
