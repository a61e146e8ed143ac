/-
  For every text ParityPoly answers true: of each byte the fourth and the fifth part are what the polynomial through the first three has there; the arguments read as before.
-/
import Derived.Test.YtgfnpemonpebpaaRows
import Derived.Test.YtgfnpemonpebpaaOk
import Derived.WalkKit
import Derived.ProofKit
import Derived.OpenShut
import Derived.ShutString
import Derived.Test.YtgfnpemonpebpaaLk
namespace Go.Proofs.Ytgfnpemonpebpaa.parityPoly
open Go.ChangeShapes Go.WideShapes Go.ChangeAt Go.RowKit
open Go.ChangeMaps (open_string shut_string)
set_option linter.unusedVariables false
set_option linter.unusedSimpArgs false

theorem own : ownKnob Try.prog.godebug = none := by kernel_rfl
set_option maxRecDepth 100000 in
set_option maxHeartbeats 3000000 in
theorem walk (D : ByteArray) (wD : D.size ≤ maxLen) (W : World) :
    Calls Try.prog 8 #[.string D] W fun e w' => e = .returned (.bool true) ∧ Below W.heap.size W w' := by
  have hf := fun w => fixed_any w
  by_cases hD : 600 < D.size
  · have d0 : 600 < (D.size : Int) := by omega
    go_enter Try.func8, Try.ntmps8
    go_wp2_with (go_at_call 9; refine (hf _).mono ?_; rintro e w1 ⟨rfl, hb⟩)
    go_ret
    exact ⟨rfl, hb⟩
  · have d0 : decide (600 < (D.size : Int)) = false := by simp; omega
    obtain ⟨n, hn⟩ : ∃ n, n = Pa.cnt D.size := ⟨_, rfl⟩
    have hn3 : n ≤ 400 := by rw [hn]; unfold Pa.cnt; omega
    have h1 := fun w => cut_any D (by omega) w
    have h3 := fun w => crows_any (D.size : Int) (by omega) (by omega) w
    simp only [rowsI_nat] at h3
    rw [← hn] at h3
    have hlL : Pa.cnt (toN D).length = n := by rw [toN_length, hn]
    have bL := toN_bytes D
    generalize hL : toN D = L at *
    have HN := Lib.hid (And.intro hn hL)
    clear hn hL
    go_enter Try.func8, Try.ntmps8
    go_wp2_with (first | (go_at_call 11; refine (h1 _).mono ?_; clear h1; rintro e w1 ⟨g, cap, rfl, _, hg, _, hp, bW⟩) | (go_at_call 13; refine (h3 _).mono ?_; rintro e w' ⟨rfl, rfl⟩))
    go_loopw [22] (fun i wr => ∃ k : Nat, k ≤ n ∧ i = .int .i64 (k : Int) ∧ Pl wr g 0 (five L) ∧ g < wr.heap.size ∧ Below W.heap.size W wr) (fun i _ => n - (intOf i).toNat)
    case atStart => exact ⟨0, by omega, rfl, hp, hg, bW⟩
    case round =>
      clear hp bW hg
      obtain ⟨k, hk, rfl, hp, hg, bW⟩ := hrel
      by_cases hkn : k < n
      · have k0 : (k : Int) < (n : Int) := by omega
        have ek : IntKind.i64.wrap ((k : Int) + 1) = (k : Int) + 1 := IntWalk.i64_in _ (by omega)
        have hkL : k < Pa.cnt L.length := by rw [hlL]; exact hkn
        go_wp2_with (refine alz z41 rfl rfl ?_)
        have oY := Own.new wr 41 (vs (zs 5))
        have kA : Below wr.heap.size wr (wr.alloc (Obj.cells (vs (zs 5)) 41)) := (Below.refl _ wr).alloc (Nat.le_refl _) _
        replace hp := hp.below kA
        have hsz := bW.size
        replace bW := bW.trans (kA.mono hsz)
        clear kA
        generalize wr.alloc (Obj.cells (vs (zs 5)) 41) = w5 at *
        generalize wr.heap.size = gy at *
        rw [← fil_zs 5 (fun p => Gf.nth (Pa.part L (p + 1)) k)] at oY
        go_loopw [27] (fun i wr => ∃ p : Nat, p ≤ 5 ∧ i = .int .i64 (p : Int) ∧ Own wr gy 41 (vs (fil 5 (fun p => Gf.nth (Pa.part L (p + 1)) k) p)) ∧ Pl wr g 0 (five L) ∧ Below W.heap.size W wr) (fun i _ => 5 - (intOf i).toNat)
        case atStart => exact ⟨0, by omega, rfl, oY, hp, bW⟩
        case round =>
          clear oY hp bW
          obtain ⟨p, hp5, rfl, oY, hp, bW⟩ := hrel
          by_cases hlp : p < 5
          · have p0 : (p : Int) < 5 := by omega
            have cS := (hp p _ (five_get L hlp)).2
            obtain ⟨S, hS, sS, eS⟩ := part_text bL (p + 1)
            simp only [← hS, Nat.zero_add] at cS
            rw [hlL] at sS
            have eSk := eS k (by omega)
            have t1 : ((S.size : Int) != (n : Int)) = false := by rw [sS]; simp
            have s0 : k < S.size := by omega
            have s1 : (k : Int) < (S.size : Int) := by omega
            have fY := oY.frozen p
            have cY := oY.cellb (i := p) (by rw [fil_length]; omega)
            have HE := Lib.hid eSk
            clear hS eS eSk
            go_wp2_with fail
            go_quiet ((go_at_call 13; exact quietS (h3 _)))
            go_wp2_with fail
            go_roundw
            case rel =>
              refine ⟨p + 1, by omega, by go_num, ?_, ?_, ?_⟩
              · have h := (show Own (wr.drewN nq) gy 41 _ from oY).setb p (Gf.nth (Pa.part L (p + 1)) k)
                rw [show (fil 5 (fun p => Gf.nth (Pa.part L (p + 1)) k) p).set p (Gf.nth (Pa.part L (p + 1)) k) = fil 5 (fun p => Gf.nth (Pa.part L (p + 1)) k) (p + 1) from fil_set _ _ _ hlp] at h
                rw [HE.out]
                exact h
              · exact hp.kept (Below.heap_setCell _ _ _ g (by show g ≠ gy; omega))
              · exact (below_dr bW ⟨_, rfl⟩).setCell hsz _
            case measure => first | (simp [intOf]; done) | (simp [intOf]; omega)
          · have p0 : decide ((p : Int) < 5) = false := by simp; omega
            have hpe : p = 5 := by omega
            rw [hpe] at oY
            clear hpe hp5 hlp
            go_wp2_with fail
            go_loopw [7] (fun i wr => ∃ X : Nat, 4 ≤ X ∧ X ≤ 6 ∧ i = .int .u8 (X : Int) ∧ Own wr gy 41 (vs (fil 5 (fun p => Gf.nth (Pa.part L (p + 1)) k) 5)) ∧ Pl wr g 0 (five L) ∧ Below W.heap.size W wr) (fun i _ => 6 - (intOf i).toNat)
            case atStart => exact ⟨4, by omega, by omega, rfl, oY, hp, bW⟩
            case round =>
              clear oY hp bW
              obtain ⟨X, hX4, hX6, rfl, oY, hp, bW⟩ := hrel
              by_cases hlX : X ≤ 5
              · have i5 : (X : Int) ≤ 5 := by omega
                have hX8 : X < 256 := by omega
                obtain ⟨q, hq⟩ : ∃ q, X = q + 1 := ⟨X - 1, by omega⟩
                have hq5 : q < 5 := by omega
                have q5 : (q : Int) < 5 := by omega
                have eq1 : IntKind.u8.wrap ((X : Int) - 1) = (q : Int) := by rw [IntKind.wrap_u8]; omega
                have eX1 : IntKind.u8.wrap ((X : Int) + 1) = (X : Int) + 1 := by rw [IntKind.wrap_u8]; omega
                have cY := oY.cellb (i := q) (by rw [fil_length]; omega)
                rw [show Gf.nth (fil 5 (fun p => Gf.nth (Pa.part L (p + 1)) k) 5) q = Gf.nth (Pa.part L X) k from by rw [Gf.nth_eq, hq]; simp [fil, hq5]] at cY
                have rY := oY.rg
                rw [fil5] at rY
                have b1 := (Pa.part_bytes bL 1).at_ k
                have b2 := (Pa.part_bytes bL 2).at_ k
                have b3 := (Pa.part_bytes bL 3).at_ k
                have pp := part_poly bL hkL hX8
                have kA : Below wr.heap.size wr (wr.alloc (Obj.cells #[.int .u8 1, .int .u8 2, .int .u8 3] 5)) := (Below.refl _ wr).alloc (Nat.le_refl _) _
                have rY2 := (rY.left.bs (Sx.three_bytes b1 b2 b3)).below kA
                have rX2 : Bs (wr.alloc (Obj.cells #[.int .u8 1, .int .u8 2, .int .u8 3] 5)) (some ⟨wr.heap.size, 0, none⟩) 3 [1, 2, 3] :=
                  bs_three (Own.new wr 5 #[.int .u8 ((1 : Nat) : Int), .int .u8 ((2 : Nat) : Int), .int .u8 ((3 : Nat) : Int)]) (by omega) (by omega) (by omega)
                replace oY := oY.below kA
                replace hp := hp.below kA
                replace bW := bW.trans (kA.mono bW.size)
                replace cY := (kA.cell (p := ⟨gy, q, none⟩) (World.block_lt_of_cell? _ _ cY)).trans cY
                clear rY kA hq
                go_wp2_with (go_at_call 17; refine (at_any _ _ 3 3 3 5 [1, 2, 3] [Gf.nth (Pa.part L 1) k, Gf.nth (Pa.part L 2) k, Gf.nth (Pa.part L 3) k] X _ hX8 (by omega) (by omega) rX2 rY2).mono ?_; rintro e w7 ⟨he, hb7⟩; obtain rfl := at123 he; rw [pp]; replace cY := (hb7.cell (p := ⟨gy, q, none⟩) (World.block_lt_of_cell? _ _ cY)).trans cY)
                go_roundw
                case rel => exact ⟨X + 1, by omega, by omega, by go_num, oY.below hb7, hp.below hb7, bW.trans (hb7.mono bW.size)⟩
                case measure => first | (simp [intOf]; done) | (simp [intOf]; omega)
              · obtain rfl : X = 6 := by omega
                go_wp2_with fail
                go_roundw
                case rel => exact ⟨k + 1, by omega, by go_num, hp, five_lt hp, bW⟩
                case measure => first | (simp [intOf]; done) | (simp [intOf]; omega)
      · obtain rfl : k = n := by omega
        go_wp2_with (go_at_call 9; refine (hf _).mono ?_; rintro e w9 ⟨rfl, hb9⟩)
        go_ret
        exact ⟨rfl, bW.trans (hb9.mono bW.size)⟩

set_option maxRecDepth 100000 in
theorem lifted (os : Os) (started : os.Started) (H : Type) (enc : TypeId × Value → H) :
    ReturnsInHanded {} Try.checked os 8 .any (Rows.parityPolySpec.pre6 enc Try.prog Try.f8 Rows.parityPolyRow.domain false) (Rows.parityPolySpec.post enc Try.prog Try.f8 false true false false) := by
  refine returnsInHanded_of_change (C := Try.checked) own started (by kernel_rfl) Try.func8
    (ChangeSpec.witness6 (enc := enc) (C := Try.checked) false ⟨#[], #[.string ByteArray.empty], []⟩ 8 (by kernel_rfl) (by kernel_rfl) (by kernel_rfl) (by kernel_rfl)) ?_
  intro W base args ds gs before hval0 hW hcnd _
  have hval : ∀ (j : Nat) t v, Try.f8.params[j]? = some t → args[j]? = some v → Value.okWide Try.prog W .any base t v := hval0
  have hW' := hW
  obtain ⟨p, q, hA0, hV, rfl, hfz, hnd⟩ := hW
  have hA : DataW.TrodAll enc Try.prog W 0 (fun _ => true) true Try.f8.params.toList args.toList ds p := hA0
  rw [Try.params8] at hA hval
  obtain ⟨v0, vs0, d0, ds0, p0, q0, hargs, rfl, rfl, h0, r0⟩ := trodAll_cons hA
  obtain ⟨rfl, rfl, rfl⟩ := trodAll_nil r0
  obtain rfl : args = #[v0] := by cases args; simp_all
  obtain ⟨rfl, rfl⟩ := trodVars_none hV
  obtain ⟨a0, rfl, rfl, rfl, w0⟩ := open_string Try.underlying9 (hval 0 9 v0 rfl rfl) h0
  clear hA0 hval0
  refine (walk a0 w0 W).mono fun e W' ⟨he, bel⟩ => ?_
  subst he
  exact ⟨_, rfl, _, _, _, [], _, [], hW', trodAll_mk1 (shut_bool Try.underlying4 _), (trodAll_cons_mk (shut_string Try.underlying9 w0) trodAll_mk0), rfl, bel.frame _, fun h => by cases h⟩

theorem over : Rows.parityPolyRow.holds Try.pinned (OpenSpec.ofChange Rows.parityPolySpec) :=
  OpenClaim.holds_of_wide 8 Try.f8 rfl rfl rfl rfl rfl rfl rfl ⟨rfl, rfl, rfl, rfl, rfl⟩ rfl rfl rfl rfl rfl (by kernel_rfl) Try.func8 (by kernel_rfl)
    (of_decide_eq_true (by kernel_rfl)) (by unfold Func.isWrapper; first | (rw [if_pos (by decide +kernel)]; kernel_rfl) | (rw [if_neg (by decide +kernel)]; exact ⟨rfl, rfl⟩))
    (fun os started H enc _ => lifted os started H enc)

/-- the statement -/
theorem proved : Rows.ParityPolySaid := over
end Go.Proofs.Ytgfnpemonpebpaa.parityPoly
