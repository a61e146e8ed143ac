/-
  For every key, head and box: SealOpens answers true (what a box has, or the error, is the document's), and the arguments read behind the call as they read before; the two package tables are laid by the program's own text.
-/
import Derived.Test.YtdmlfibnhcdhkaaDoorRows
import Derived.Test.YtdmlfibnhcdhkaaDoorCards
import Derived.Test.YtdmlfibnhcdhkaaDoorTie
import Derived.Test.YtdmlfibnhcdhkaaDoorLw
import Derived.WalkKit
import Derived.ProofKit
import Derived.LaidMore
import Derived.OpenShut
import Derived.ShutString
import Derived.Stop.Joined
namespace Go.Proofs.YtdmlfibnhcdhkaaDoor.sealOpens
open Go.ChangeShapes Go.WideShapes Go.ChangeAt Go.RowKit
open Go.ChangeMaps (open_string shut_string)
set_option linter.unusedVariables false

theorem own : ownKnob Tryd.prog.godebug = none := by kernel_rfl
def laid2 {H : Type} : List (String × DataW H) := [("hibernacle/hash.eight", Rows.laid_hibernacle_hash_eight), ("hibernacle/hash.rows", Rows.laid_hibernacle_hash_rows)]
theorem door_met (os : Os) (args : Array Value) : laidMetH Tryd.prog laid2 ((World.doorLaid Tryd.prog 400 os).forCall (fun _ _ => 0) ⟨#[], args, []⟩).memory :=
  laidMetH_of_parts3 (fuel := 8) (laidMet_of_run' 8 (by kernel_rfl) (by kernel_rfl)) (by kernel_rfl) (by kernel_rfl)
set_option maxRecDepth 100000 in
set_option maxHeartbeats 2000000 in
theorem walk (K : List Nat) (h s : ByteArray) (hK : Bl.By K) (lK : K.length = 32) (wh : h.size ≤ maxLen) (ws : s.size ≤ maxLen) (w : World) (hT : Tab w) :
    Calls Tryd.prog 4 #[.agg (vs .u8 K), .string h, .string s] w fun e w' => e = .returned (.bool true) ∧ Below w.heap.size w w' := by
  obtain ⟨V, hV⟩ : ∃ V, V = w.alloc (Obj.cells (vs .u8 K) 23) := ⟨_, rfl⟩
  have st0 : Kf w (w.alloc (Obj.cells (vs .u8 K) 23)) K := ⟨Own.new _ _ _, grow _ _⟩
  have st := st0
  rw [← hV] at st
  have ha := fun wr (o : Kf w wr K) => awake_any wr (hT.below o.b)
  have HV := Lib.hid hV
  clear hV
  by_cases hbig : 400 < h.size ∨ 400 < s.size
  · have dd : 400 < (h.size : Int) ∨ ((400 < (h.size : Int)) = False ∧ 400 < (s.size : Int)) := by
      by_cases h1 : 400 < h.size
      · exact .inl (by omega)
      · exact .inr ⟨by simp; omega, by omega⟩
    clear hbig
    rcases dd with d0 | ⟨d0, d1⟩ <;>
    · go_enter Tryd.func4, Tryd.ntmps4
      go_wp2_with fail
      change Calls _ _ _ (w.alloc (Obj.cells (vs .u8 K) 23)) _
      rw [← HV.out]
      refine (ha _ st).mono ?_
      rintro e w1 ⟨rfl, hx⟩
      replace st := st.below hx
      go_wp2_with fail
      go_ret
      exact ⟨rfl, st.b⟩
  · have d0 : ¬ 400 < (h.size : Int) := by omega
    have d1 : ¬ 400 < (s.size : Int) := by omega
    have h12 := fun wr (o : Kf w wr K) => open_any K h s wr hK lK (hT.below o.b) (by omega) (by omega)
    have h14 := fun wr => ropen_any K h s wr hK lK (by omega) (by omega)
    obtain ⟨d, n⟩ := openD K h s
    clear hbig hT
    go_enter Tryd.func4, Tryd.ntmps4
    go_wp2_with (refine ld t28 rfl rfl rfl st0.k lK ?_)
    change Calls _ _ _ (w.alloc (Obj.cells (vs .u8 K) 23)) _
    rw [← HV.out]
    clear st0 HV
    refine (h12 _ st).mono ?_
    rintro e w1 ⟨rfl, hx⟩
    replace st := st.below hx
    clear hx
    go_wp2_with (refine ld t28 rfl rfl rfl st.k lK ?_)
    refine (h14 _).mono ?_
    rintro e w2 ⟨rfl, hx⟩
    replace st := st.below hx
    clear hx
    go_wp2_with fail
    refine (ha _ st).mono ?_
    rintro e w3 ⟨rfl, hx⟩
    replace st := st.below hx
    clear hx
    go_wp2_with fail
    go_ret
    exact ⟨rfl, st.b⟩

set_option maxRecDepth 100000 in
theorem lifted (os : Os) (started : os.Started) (H : Type) (enc : TypeId × Value → H) :
    ReturnsInHanded {} Tryd.checked os 4 .any (fun w args => (Rows.sealOpensSpec.pre enc Tryd.prog Tryd.f4 [] false w args ∧ laidMetH Tryd.prog laid2 w) ∧ sizedMet enc Tryd.prog Tryd.f4 (OpenSpec.ofChange Rows.sealOpensSpec) false w args)
      (Rows.sealOpensSpec.post enc Tryd.prog Tryd.f4 false true false false) := by
  refine returnsInHanded_of_change_and (C := Tryd.checked) (X := fun w _ => laidMetH Tryd.prog laid2 w) (fun _ _ _ hh h => h.of_heap hh) own started (by kernel_rfl) Tryd.func4
    (ChangeSpec.witness_shaped (enc := enc) (C := Tryd.checked) (os := os) (X := fun w _ => laidMetH Tryd.prog laid2 w) false (World.doorLaid Tryd.prog 400 os) #[.agg (Array.replicate 32 (.int .u8 0)), .string ByteArray.empty, .string ByteArray.empty] 8 rfl (World.shaped_of_RefB (by kernel_rfl) (by kernel_rfl)) (by kernel_rfl) (by kernel_rfl) (by kernel_rfl) (door_met os _)) ?_
  intro W base args ds gs before hval0 hW _ _ hL _
  have hval : ∀ (j : Nat) t v, Tryd.f4.params[j]? = some t → args[j]? = some v → Value.okWide Tryd.prog W .any base t v := hval0
  have hW' := hW
  obtain ⟨p, q, hA0, hV, rfl, hfz, hnd⟩ := hW
  have hA : DataW.TrodAll enc Tryd.prog W 0 (fun _ => true) true Tryd.f4.params.toList args.toList ds p := hA0
  rw [Tryd.params4] at hA hval
  obtain ⟨v0, vs0, d0, ds0, p0, q0, hargs, rfl, rfl, h0, r0⟩ := trodAll_cons hA
  obtain ⟨v1, vs1, d1, ds1, p1, q1, rfl, rfl, rfl, h1, r1⟩ := trodAll_cons r0
  obtain ⟨v2, vs2, d2, ds2, p2, q2, rfl, rfl, rfl, h2, r2⟩ := trodAll_cons r1
  obtain ⟨rfl, rfl, rfl⟩ := trodAll_nil r2
  obtain rfl : args = #[v0, v1, v2] := by cases args; simp_all
  obtain ⟨rfl, rfl⟩ := trodVars_none hV
  obtain ⟨K0, rfl, l0, b0⟩ := okKey (hval 0 23 v0 rfl rfl)
  have k0 := h0
  have lt0 : ∀ x ∈ p0, x.block < W.heap.size := by obtain ⟨m, hm⟩ := k0; exact DataW.trod_lt m _ _ _ hm
  obtain ⟨a1, rfl, rfl, rfl, w1⟩ := open_string Tryd.underlying9 (hval 1 9 v1 rfl rfl) h1
  obtain ⟨a2, rfl, rfl, rfl, w2⟩ := open_string Tryd.underlying9 (hval 2 9 v2 rfl rfl) h2
  have hT := of_laid hL
  clear hA0 hval0
  refine (walk K0 a1 a2 b0 l0 w1 w2 W hT).mono fun e W' ⟨he, bel⟩ => ?_
  subst he
  exact ⟨_, rfl, _, _, _, [], _, [], hW', trodAll_mk1 (shut_bool Tryd.underlying4 _), (trodAll_cons_mk (Below.trod laidOut (by kernel_rfl) (of_decide_eq_true (by kernel_rfl)) k0 bel lt0) (trodAll_cons_mk (shut_string Tryd.underlying9 w1) (trodAll_cons_mk (shut_string Tryd.underlying9 w2) trodAll_mk0))), rfl, bel.frame _, fun h => by cases h⟩

theorem bare : Rows.SealOpensSaid :=
  OpenClaim.holds_of_wide 4 Tryd.f4 rfl rfl rfl rfl rfl rfl rfl ⟨rfl, rfl, rfl, rfl, rfl⟩ rfl rfl rfl rfl rfl (by kernel_rfl) Tryd.func4 (by kernel_rfl)
    (of_decide_eq_true (by kernel_rfl)) (by unfold Func.isWrapper; first | (rw [if_pos (by decide +kernel)]; kernel_rfl) | (rw [if_neg (by decide +kernel)]; exact ⟨rfl, rfl⟩))
    (fun os started H enc _ => lifted os started H enc)

/-- the statement -/
theorem proved : Rows.SealOpensCardSaid :=
  Claim7.holds_tied_plain_at .later [] [.data, .data] true Rows.sealOpensCard.stood.harness false
    bare (fun _ h => by cases h) (by kernel_rfl) (fun _ h => by cases h) sealOpens_row_tie rfl ⟨rfl, rfl⟩ (by kernel_rfl) rfl
    (fun f fn hf hfn => by
      obtain rfl : f = 4 := Option.some.inj ((show Tryd.prog.funcNamed "hibernacle/hibernaclelaw04.SealOpens" = some 4 by kernel_rfl).symm.trans hf) |>.symm
      obtain rfl : fn = Tryd.f4 := (Option.some.inj (Tryd.func4.symm.trans hfn)).symm
      exact ⟨by kernel_rfl, fun j t ht => by
        rw [Tryd.params4] at ht
        have hm : t ∈ [23, 9, 9] := by simpa using Array.mem_of_getElem? ht
        have hall : ([23, 9, 9].all fun u => !Tryd.prog.wantsStandIn u) = true := by kernel_rfl
        exact (show Tryd.prog.wantsStandIn t = false by simpa using List.all_eq_true.1 hall t hm)⟩)
    (by kernel_rfl)
end Go.Proofs.YtdmlfibnhcdhkaaDoor.sealOpens
