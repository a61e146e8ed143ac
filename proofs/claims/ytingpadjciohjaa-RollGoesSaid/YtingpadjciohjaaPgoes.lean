/-
  For every window and byte RollGoes answers true: the sum goes on; the arguments read as before.
-/
import Derived.Test.YtingpadjciohjaaRows
import Derived.Test.YtingpadjciohjaaOk
import Derived.WalkKit
import Derived.ProofKit
import Derived.OpenShut
import Derived.ShutString
import Derived.RegionTactic
import Derived.BigRegion
import Derived.BigQuiet
import Derived.Deep.RegionHeld3
import Derived.Test.YtingpadjciohjaaJn
namespace Go.Proofs.Ytingpadjciohjaa.rollGoes
open Go.ChangeShapes Go.WideShapes Go.ChangeAt Go.RowKit
open Go.ChangeMaps (open_string shut_string)
open _root_.Go.Proofs.Ytingpadjciohjaa.Nm
set_option linter.unusedVariables false
set_option linter.unusedSimpArgs false

theorem own : ownKnob Try.prog.godebug = none := by kernel_rfl
theorem conv_one (W : World) (g : Nat) (x : Int) (h : W.cell? ⟨g, 0, none⟩ = some (.int .u8 x)) : (convert 41 9 (.slice (some ⟨g, 0, none⟩) 1 1)).run Try.prog W = .ok (.string ⟨#[UInt8.ofNat x.toNat]⟩) W := by
  have hh : ∀ i, i < 1 → W.cell? ⟨g, 0 + i, none⟩ = some (.int .u8 ([x].getD i 0)) := by
    intro i hi
    obtain rfl : i = 0 := by omega
    exact h
  rw [run_convert_bytes_arg W 41 5 Try.underlying41 Try.underlying5 g 0 1 1 [x] rfl hh 9 Try.underlying9]
  rfl
theorem conv_new (W : World) (x : Int) : (convert 41 9 (.slice (some ⟨W.heap.size, 0, none⟩) 1 1)).run Try.prog (W.alloc (.cells #[.int .u8 x] 5)) = .ok (.string ⟨#[UInt8.ofNat x.toNat]⟩) (W.alloc (.cells #[.int .u8 x] 5)) := conv_one _ _ _ (own1 _ _ _)
theorem conv_new_drew (W : World) (x : Int) : (convert 41 9 (.slice (some ⟨W.heap.size, 0, none⟩) 1 1)).run Try.prog (W.alloc (.cells #[.int .u8 x] 5)).drew = .ok (.string ⟨#[UInt8.ofNat x.toNat]⟩) (W.alloc (.cells #[.int .u8 x] 5)).drew := conv_one (W.alloc (.cells #[.int .u8 x] 5)).drew _ _ (own1 W (.int .u8 x) 5)
theorem goes_eq (D : ByteArray) (b n p : Nat) (hb : b < 256) (h0 : 0 < D.size) (hn : n = D.size - 1) (hp : p = Ro.pw n) :
    ((Ro.S (List.take (D.size - 1) D.data.toList.tail ++ [UInt8.ofNat b]) : Nat) : Int) = (((((Ro.S D.data.toList : Nat) : Int) - ((D[0].toNat : Int) + 1) % 4294967296 * (p : Int) % 4294967296) % 4294967296 * 69069 % 4294967296 + (b : Int)) % 4294967296 + 1) % 4294967296 := by
  obtain ⟨⟨xs⟩⟩ := D
  cases xs with
  | nil => exact absurd h0 (by decide)
  | cons x l =>
    have e1 : (⟨⟨x :: l⟩⟩ : ByteArray).size - 1 = l.length := rfl
    have e2 : ((⟨⟨x :: l⟩⟩ : ByteArray)[0]'h0).toNat = x.toNat := rfl
    have e3 : (⟨⟨x :: l⟩⟩ : ByteArray).data.toList = x :: l := rfl
    rw [e1] at hn ⊢
    rw [e2, e3, List.tail_cons, List.take_length, Ro.S_snoc, hp, hn]
    have hs := Ro.S_tail x l
    have e4 : (UInt8.ofNat b).toNat = b := by simp; omega
    rw [e4]
    generalize Ro.S (x :: l) = A at *
    generalize Ro.S l = B at *
    have e5 : ((A : Int) - ((x.toNat : Int) + 1) % 4294967296 * (Ro.pw l.length : Int) % 4294967296) % 4294967296 = (B : Int) := by
      rw [← hs]
      have hx := x.toNat_lt
      have e6 : ((x.toNat : Int) + 1) % 4294967296 = (x.toNat : Int) + 1 := by omega
      rw [e6, Int.mul_comm]
      generalize (Ro.pw l.length : Int) * ((x.toNat : Int) + 1) = q
      omega
    rw [e5]
    omega
set_option maxRecDepth 100000 in
set_option maxHeartbeats 4000000 in
theorem walk (D : ByteArray) (b : Nat) (hD : D.size ≤ maxLen) (hb8 : b < 256) (W : World) :
    Calls Try.prog 7 #[.string D, .int .u8 b] W fun e w' => e = .returned (.bool true) ∧ Below W.heap.size W w' := by
  unfold maxLen at hD
  by_cases hbig : D.size = 0 ∨ 500 < D.size
  · have dd : (((D.size : Int) == 0) = true) ∨ ((((D.size : Int) == 0) = false) ∧ 500 < (D.size : Int)) := by
      by_cases h : D.size = 0
      · exact .inl (by rw [h]; rfl)
      · exact .inr ⟨by rw [beq_eq_false_iff_ne]; omega, by omega⟩
    clear hbig
    rcases dd with d0 | ⟨d0, d1⟩ <;>
    · go_enter Try.func7, Try.ntmps7
      go_wp2_with fail
      refine (alive_any _).mono ?_
      rintro e w1 ⟨rfl, hb⟩
      go_wp2_with fail
      go_ret
      exact ⟨rfl, hb⟩
  · have d0 : ((D.size : Int) == 0) = false := by rw [beq_eq_false_iff_ne]; omega
    have d1 : decide (500 < (D.size : Int)) = false := by rw [decide_eq_false_iff_not]; omega
    have d2 : 1 ≤ (D.size : Int) := by omega
    have d3 : (D.size : Int) ≤ 500 := by omega
    obtain ⟨n, hn⟩ : ∃ n, n = D.size - 1 := ⟨_, rfl⟩
    have en : (D.size : Int) - 1 = (n : Int) := by omega
    clear hbig
    go_enter Try.func7, Try.ntmps7
    go_wp2_with fail
    refine (alive_any _).mono ?_
    rintro e w1 ⟨rfl, hb⟩
    have HN := Lib.hid hn
    clear hn
    go_wp2_with fail
    go_loop [5, 19] (fun p i => ∃ k : Nat, k ≤ n ∧ i = .int .i64 k ∧ p = .int .u32 (Ro.pw k : Nat)) (fun _ i => n - (intOf i).toNat)
    case atStart => exact ⟨0, Nat.zero_le _, rfl, rfl⟩
    case round =>
      obtain ⟨k, hkk, rfl, rfl⟩ := hrel
      by_cases hlt : k < n
      · have l0 : (k : Int) < (n : Int) := by omega
        have HP := Lib.hid (Ro.pw_succ k)
        have hp := Ro.pw_lt k
        generalize Ro.pw k = p at *
        go_wp2_with fail
        go_round
        case rel => exact ⟨k + 1, by omega, by go_num, by rw [HP.out]; congr 1⟩
        case measure => simp [intOf]; omega
      · obtain rfl : n = k := by omega
        have hk1 := conv_new
        have hk2 := conv_new_drew
        have i0 : (0 : Int) < (D.size : Int) := by omega
        have hz : (D.extract 1 D.size).size ≤ 500 := by rw [ByteArray.size_extract]; omega
        have h5 := fun (s : ByteArray) (h : s.size ≤ 9223372036854775807) wr => sum_any s wr h
        have hp := Ro.pw_lt n
        have hfin := goes_eq D b n _ hb8 (by omega) HN.out rfl
        generalize Ro.pw n = p at *
        have HF := Lib.hid hfin
        clear hfin
        go_wp2_with fail
        have hsz : ∀ x, (D.extract 1 D.size ++ ⟨#[x]⟩).size ≤ 9223372036854775807 := fun x => by rw [ByteArray.size_append]; have h : (⟨#[x]⟩ : ByteArray).size = 1 := rfl; omega
        have hs1 : ¬ (9223372036854775807 < D.size - 1 + 1) := by omega
        have p0 : 0 < D.size := by omega
        refine wp_region_any (by kernel_rfl) ?_
        change wpAny _ _ _ _ _ _ _ (World.drew _)
        refine wpAny_take (i := 0) (v := ?_) rfl (by kernel_rfl) (by kernel_rfl) (by kernel_rfl) (fun _ _ _ h => h) (Or.inl ⟨by rfl, ?_⟩) ?_
        rotate_left
        · intro w; go_simp; try with_reducible rfl
        refine wpAny_take (i := 1) (v := ?_) rfl (by kernel_rfl) (by kernel_rfl) (by kernel_rfl) (fun _ _ _ h => h) (Or.inl ⟨by rfl, ?_⟩) ?_
        rotate_left
        · intro w; go_simp; try with_reducible rfl
        refine wpAny_take (i := 2) (v := ?_) rfl (by kernel_rfl) (by kernel_rfl) (by kernel_rfl) (fun _ _ _ h => h) (Or.inl ⟨by rfl, ?_⟩) ?_
        rotate_left
        · intro w; go_simp; try with_reducible rfl
        refine wpAny_take (i := 7) (v := ?_) rfl (by kernel_rfl) (by kernel_rfl) (by kernel_rfl) (fun _ _ _ h => h) (Or.inl ⟨by rfl, ?_⟩) ?_
        rotate_left
        · intro w; go_simp; try with_reducible rfl
        refine wpAny_take (i := 9) (v := ?_) rfl (by kernel_rfl) (by kernel_rfl) (by kernel_rfl) (fun _ _ _ h => h) (Or.inl ⟨by rfl, ?_⟩) ?_
        rotate_left
        · intro w; go_simp; try with_reducible rfl
        refine wpAny_take (i := 10) (v := ?_) rfl (by kernel_rfl) (by kernel_rfl) (by kernel_rfl) (fun _ _ _ h => h) (Or.inl ⟨by rfl, ?_⟩) ?_
        rotate_left
        · intro w; go_simp; try with_reducible rfl
        refine wpAny_take (i := 11) (v := ?_) rfl (by kernel_rfl) (by kernel_rfl) (by kernel_rfl) (fun _ _ _ h => h) (Or.inl ⟨by rfl, ?_⟩) ?_
        rotate_left
        · intro w; go_simp; try with_reducible rfl
        refine wpAny_take (i := 12) (v := ?_) rfl (by kernel_rfl) (by kernel_rfl) (by kernel_rfl) (fun _ _ _ h => h) (Or.inl ⟨by rfl, ?_⟩) ?_
        rotate_left
        · intro w; go_simp; try with_reducible rfl
        refine wpAny_take (i := 13) (v := ?_) rfl (by kernel_rfl) (by kernel_rfl) (by kernel_rfl) (fun _ _ _ h => h) (Or.inl ⟨by rfl, ?_⟩) ?_
        rotate_left
        · intro w; go_simp; try with_reducible rfl
        refine wpAny_take (i := 14) (v := ?_) rfl (by kernel_rfl) (by kernel_rfl) (by kernel_rfl) (fun _ _ _ h => h) (Or.inl ⟨by rfl, ?_⟩) ?_
        rotate_left
        · intro w; go_simp; try with_reducible rfl
        refine wpAny_take (i := 17) (v := ?_) rfl (by kernel_rfl) (by kernel_rfl) (by kernel_rfl) (fun _ _ _ h => h) (Or.inl ⟨by rfl, ?_⟩) ?_
        rotate_left
        · intro w; go_simp; try with_reducible rfl
        refine wpAny_take (i := 18) (v := ?_) rfl (by kernel_rfl) (by kernel_rfl) (by kernel_rfl) (fun _ _ _ h => h) (Or.inl ⟨by rfl, ?_⟩) ?_
        rotate_left
        · intro w; go_simp; try with_reducible rfl
        refine wpAny_ready (rs := [3]) (by kernel_rfl) (by simp) ?_
        refine AllReady.cons rfl (fun K hK => ?_) AllReady.nil
        go_simp
        refine hK _ _ ?_
        clear hK K
        refine wpAny_ready (rs := [4]) (by kernel_rfl) (by simp) ?_
        refine AllReady.cons rfl (fun K hK => ?_) AllReady.nil
        go_simp
        refine hK _ _ ?_
        clear hK K
        refine wpAny_take (i := 5) (v := ?_) rfl (by kernel_rfl) (by kernel_rfl) (by kernel_rfl) (fun _ _ _ h => h) (Or.inl ⟨by rfl, ?_⟩) ?_
        rotate_left
        · intro w; go_simp; try with_reducible rfl
        refine wpAny_ready (rs := [6]) (by kernel_rfl) (by simp) ?_
        refine AllReady.cons rfl (fun K hK => ?_) AllReady.nil
        go_simp
        go_wp2_with (first | (go_at_call 15; refine (h5 _ (by first | omega | exact hsz _) _).mono ?_; rintro e w7 ⟨rfl, rfl⟩))
        refine wpAny_ready (rs := [8]) (by kernel_rfl) (by simp) ?_
        refine AllReady.cons rfl (fun K hK => ?_) AllReady.nil
        go_simp
        go_wp2_with (first | (go_at_call 15; refine (h5 _ (by first | omega | exact hsz _) _).mono ?_; rintro e w7 ⟨rfl, rfl⟩))
        refine wpAny_take (i := 15) (v := ?_) rfl (by kernel_rfl) (by kernel_rfl) (by kernel_rfl) (fun _ _ _ h => h) (Or.inl ⟨by rfl, ?_⟩) ?_
        rotate_left
        · intro w; go_simp; try with_reducible rfl
        refine wpAny_take (i := 16) (v := ?_) rfl (by kernel_rfl) (by kernel_rfl) (by kernel_rfl) (fun _ _ _ h => h) (Or.inl ⟨by rfl, ?_⟩) ?_
        rotate_left
        · intro w; go_simp; try with_reducible rfl
        refine wpAny_take (i := 19) (v := ?_) rfl (by kernel_rfl) (by kernel_rfl) (by kernel_rfl) (fun _ _ _ h => h) (Or.inl ⟨by rfl, ?_⟩) ?_
        rotate_left
        · intro w; go_simp; try with_reducible rfl
        refine wpAny_take (i := 20) (v := ?_) rfl (by kernel_rfl) (by kernel_rfl) (by kernel_rfl) (fun _ _ _ h => h) (Or.inl ⟨by rfl, ?_⟩) ?_
        rotate_left
        · intro w; go_simp; try with_reducible rfl
        refine wpAny_take (i := 21) (v := ?_) rfl (by kernel_rfl) (by kernel_rfl) (by kernel_rfl) (fun _ _ _ h => h) (Or.inl ⟨by rfl, ?_⟩) ?_
        rotate_left
        · intro w; go_simp; try with_reducible rfl
        refine wpAny_take (i := 22) (v := ?_) rfl (by kernel_rfl) (by kernel_rfl) (by kernel_rfl) (fun _ _ _ h => h) (Or.inl ⟨by rfl, ?_⟩) ?_
        rotate_left
        · intro w; go_simp; try with_reducible rfl
        refine wpAny_done (by kernel_rfl) ?_ _
        all_goals
          go_wp2_with fail
          go_ret
          refine ⟨congrArg (fun q => Ending.returned (Value.bool q)) ?_, ?_⟩
          · rw [beq_iff_eq, HF.out]
            have hx := (D[0]'(by omega)).toNat_lt
            have hm' : ∀ z : Nat, z < 256 → (z : Int) % (4294967296 : Int) = (z : Int) := fun z h => Int.emod_eq_of_lt (by omega) (by omega)
            simp only [IntKind.wrap_u32]
            rw [hm' b hb8, hm' _ hx]
          · first | exact (hb.alloc hb.size _) | exact (hb.alloc hb.size _).drew

set_option maxRecDepth 100000 in
theorem lifted (os : Os) (started : os.Started) (H : Type) (enc : TypeId × Value → H) :
    ReturnsInHanded {} Try.checked os 7 .any (Rows.rollGoesSpec.pre6 enc Try.prog Try.f7 Rows.rollGoesRow.domain false) (Rows.rollGoesSpec.post enc Try.prog Try.f7 false true false false) := by
  refine returnsInHanded_of_change (C := Try.checked) own started (by kernel_rfl) Try.func7
    (ChangeSpec.witness6 (enc := enc) (C := Try.checked) false ⟨#[], #[.string ByteArray.empty, .int .u8 0], []⟩ 8 (by kernel_rfl) (by kernel_rfl) (by kernel_rfl) (by kernel_rfl)) ?_
  intro W base args ds gs before hval0 hW hcnd _
  have hval : ∀ (j : Nat) t v, Try.f7.params[j]? = some t → args[j]? = some v → Value.okWide Try.prog W .any base t v := hval0
  have hW' := hW
  obtain ⟨p, q, hA0, hV, rfl, hfz, hnd⟩ := hW
  have hA : DataW.TrodAll enc Try.prog W 0 (fun _ => true) true Try.f7.params.toList args.toList ds p := hA0
  rw [Try.params7] at hA hval
  obtain ⟨v0, vs0, d0, ds0, p0, q0, hargs, rfl, rfl, h0, r0⟩ := trodAll_cons hA
  obtain ⟨v1, vs1, d1, ds1, p1, q1, rfl, rfl, rfl, h1, r1⟩ := trodAll_cons r0
  obtain ⟨rfl, rfl, rfl⟩ := trodAll_nil r1
  obtain rfl : args = #[v0, v1] := by cases args; simp_all
  obtain ⟨rfl, rfl⟩ := trodVars_none hV
  obtain ⟨a0, rfl, rfl, rfl, w0⟩ := open_string Try.underlying9 (hval 0 9 v0 rfl rfl) h0
  obtain ⟨n1, rfl, rfl, rfl, w1⟩ := open_int Try.underlying5 (hval 1 5 v1 rfl rfl) h1
  obtain ⟨m1, rfl, z1⟩ := nat_u8 w1
  clear hA0 hval0
  refine (walk a0 m1 w0 z1 W).mono fun e W' ⟨he, bel⟩ => ?_
  subst he
  exact ⟨_, rfl, _, _, _, [], _, [], hW', trodAll_mk1 (shut_bool Try.underlying4 _), (trodAll_cons_mk (shut_string Try.underlying9 w0) (trodAll_cons_mk (shut_int Try.underlying5 w1) trodAll_mk0)), rfl, bel.frame _, fun h => by cases h⟩

theorem over : Rows.rollGoesRow.holds Try.pinned (OpenSpec.ofChange Rows.rollGoesSpec) :=
  OpenClaim.holds_of_wide 7 Try.f7 rfl rfl rfl rfl rfl rfl rfl ⟨rfl, rfl, rfl, rfl, rfl⟩ rfl rfl rfl rfl rfl (by kernel_rfl) Try.func7 (by kernel_rfl)
    (of_decide_eq_true (by kernel_rfl)) (by unfold Func.isWrapper; first | (rw [if_pos (by decide +kernel)]; kernel_rfl) | (rw [if_neg (by decide +kernel)]; exact ⟨rfl, rfl⟩))
    (fun os started H enc _ => lifted os started H enc)

/-- the statement -/
theorem proved : Rows.RollGoesSaid := over
end Go.Proofs.Ytingpadjciohjaa.rollGoes
