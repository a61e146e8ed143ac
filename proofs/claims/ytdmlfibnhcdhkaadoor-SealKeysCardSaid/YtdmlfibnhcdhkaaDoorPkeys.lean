/-
  For every two keys, head and data: SealKeys answers true (what another key makes of a box is the document's, and no data come out where the box is refused), and the arguments read behind the call as they read before; the two package tables are laid by the program's own text.
-/
import Derived.Test.YtdmlfibnhcdhkaaDoorRows
import Derived.Test.YtdmlfibnhcdhkaaDoorCards
import Derived.Test.YtdmlfibnhcdhkaaDoorTie
import Derived.Test.YtdmlfibnhcdhkaaDoorLw
import Derived.WalkKit
import Derived.ProofKit
import Derived.LaidMore
import Derived.OpenShut
import Derived.ShutString
import Derived.Stop.Joined
namespace Go.Proofs.YtdmlfibnhcdhkaaDoor.sealKeys
open Go.ChangeShapes Go.WideShapes Go.ChangeAt Go.RowKit
open Go.ChangeMaps (open_string shut_string)
set_option linter.unusedVariables false

theorem own : ownKnob Tryd.prog.godebug = none := by kernel_rfl
def laid2 {H : Type} : List (String × DataW H) := [("hibernacle/hash.eight", Rows.laid_hibernacle_hash_eight), ("hibernacle/hash.rows", Rows.laid_hibernacle_hash_rows)]
theorem door_met (os : Os) (args : Array Value) : laidMetH Tryd.prog laid2 ((World.doorLaid Tryd.prog 400 os).forCall (fun _ _ => 0) ⟨#[], args, []⟩).memory :=
  laidMetH_of_parts3 (fuel := 8) (laidMet_of_run' 8 (by kernel_rfl) (by kernel_rfl)) (by kernel_rfl) (by kernel_rfl)
set_option maxRecDepth 100000 in
set_option maxHeartbeats 2000000 in
theorem walk (K L : List Nat) (h s : ByteArray) (hK : Bl.By K) (lK : K.length = 32) (hL : Bl.By L) (lL : L.length = 32) (wh : h.size ≤ maxLen) (ws : s.size ≤ maxLen) (w : World) (hT : Tab w) :
    Calls Tryd.prog 6 #[.agg (vs .u8 K), .agg (vs .u8 L), .string h, .string s] w fun e w' => e = .returned (.bool true) ∧ Below w.heap.size w w' := by
  obtain ⟨V, hV⟩ : ∃ V, V = (w.alloc (Obj.cells (vs .u8 K) 23)).alloc (Obj.cells (vs .u8 L) 23) := ⟨_, rfl⟩
  have st := Kk.new w K L
  rw [← hV] at st
  have ha := fun wr (o : Kk w wr K L) => awake_any wr (hT.below o.b)
  have HV := Lib.hid hV
  clear hV
  by_cases hbig : 300 < h.size ∨ 300 < s.size
  · have dd : 300 < (h.size : Int) ∨ ((300 < (h.size : Int)) = False ∧ 300 < (s.size : Int)) := by
      by_cases h1 : 300 < h.size
      · exact .inl (by omega)
      · exact .inr ⟨by simp; omega, by omega⟩
    clear hbig
    rcases dd with d0 | ⟨d0, d1⟩ <;>
    · go_enter Tryd.func6, Tryd.ntmps6
      go_wp2_with fail
      change Calls _ _ _ ((w.alloc (Obj.cells (vs .u8 K) 23)).alloc (Obj.cells (vs .u8 L) 23)) _
      rw [← HV.out]
      refine (ha _ st).mono ?_
      rintro e w1 ⟨rfl, hx⟩
      replace st := st.below hx
      go_wp2_with fail
      go_ret
      exact ⟨rfl, st.b⟩
  · have d0 : ¬ 300 < (h.size : Int) := by omega
    have d1 : ¬ 300 < (s.size : Int) := by omega
    obtain ⟨M, hM⟩ : ∃ M, M = nonD s := ⟨_, rfl⟩
    have lM : M.length = 12 := by rw [hM]; exact nonD_len s
    have bM : Bl.By M := by rw [hM]; exact nonD_by s
    have zb : (boxD K M h s).size = s.size + 44 := boxD_size lM
    have h15 := fun wr => nonce_any s wr
    rw [← hM] at h15
    have h11 := fun wr (o : Kk w wr K L) => seal_any K M h s wr hK bM lK lM (hT.below o.b) (by omega) (by omega)
    have h12 := fun wr (o : Kk w wr K L) => open_any L h (boxD K M h s) wr hL lL (hT.below o.b) (by omega) (by omega)
    have h14 := fun wr => ropen_any L h (boxD K M h s) wr hL lL (by omega) (by omega)
    have hz := openD_none L h (boxD K M h s)
    generalize openD L h (boxD K M h s) = r at *
    obtain ⟨d, n⟩ := r
    generalize boxD K M h s = b at *
    change n = 0 ∨ d = ⟨#[]⟩ at hz
    have hc : (n = 0) ∨ (((n : Int) == 0) = false ∧ d = ⟨#[]⟩) := by
      by_cases h0 : n = 0
      · exact .inl h0
      · exact .inr ⟨by simp; omega, hz.resolve_left h0⟩
    clear hbig hT hM hz bM hK hL zb
    rcases hc with rfl | ⟨e0, rfl⟩ <;>
    · go_enter Tryd.func6, Tryd.ntmps6
      go_wp2_with fail
      change Calls _ _ _ ((w.alloc (Obj.cells (vs .u8 K) 23)).alloc (Obj.cells (vs .u8 L) 23)) _
      rw [← HV.out]
      clear HV
      refine (h15 _).mono ?_
      rintro e w1 ⟨rfl, hx⟩
      replace st := st.below hx
      clear hx
      have oN := Own.new w1 24 (vs .u8 M)
      replace st := st.below (grow w1 (Obj.cells (vs .u8 M) 24))
      go_wp2_with (first | (refine sto_new (l := M) tN rfl rfl rfl rfl rfl rfl lM ?_) | (first | (refine ld t28 rfl rfl rfl st.k lK ?_) | (refine ld t28 rfl rfl rfl st.l lL ?_) | (refine ld tN rfl rfl rfl oN lM ?_)))
      generalize w1.alloc (Obj.cells (vs .u8 M) 24) = W1 at *
      generalize w1.heap.size = g at *
      refine (h11 _ st).mono ?_
      rintro e w2 ⟨rfl, hx⟩
      replace st := st.below hx
      replace oN := Below.own hx oN oN.lt
      clear hx
      go_wp2_with (first | (refine ld t28 rfl rfl rfl st.k lK ?_) | (refine ld t28 rfl rfl rfl st.l lL ?_) | (refine ld tN rfl rfl rfl oN lM ?_))
      refine (h12 _ st).mono ?_
      rintro e w3 ⟨rfl, hx⟩
      replace st := st.below hx
      replace oN := Below.own hx oN oN.lt
      clear hx
      go_wp2_with (first | (refine ld t28 rfl rfl rfl st.k lK ?_) | (refine ld t28 rfl rfl rfl st.l lL ?_) | (refine ld tN rfl rfl rfl oN lM ?_))
      refine (h14 _).mono ?_
      rintro e w4 ⟨rfl, hx⟩
      replace st := st.below hx
      replace oN := Below.own hx oN oN.lt
      clear hx
      go_wp2_with fail
      refine (ha _ st).mono ?_
      rintro e w5 ⟨rfl, hx⟩
      replace st := st.below hx
      replace oN := Below.own hx oN oN.lt
      clear hx
      go_wp2_with fail
      go_ret
      exact ⟨rfl, st.b⟩

set_option maxRecDepth 100000 in
theorem lifted (os : Os) (started : os.Started) (H : Type) (enc : TypeId × Value → H) :
    ReturnsInHanded {} Tryd.checked os 6 .any (fun w args => (Rows.sealKeysSpec.pre enc Tryd.prog Tryd.f6 [] false w args ∧ laidMetH Tryd.prog laid2 w) ∧ sizedMet enc Tryd.prog Tryd.f6 (OpenSpec.ofChange Rows.sealKeysSpec) false w args)
      (Rows.sealKeysSpec.post enc Tryd.prog Tryd.f6 false true false false) := by
  refine returnsInHanded_of_change_and (C := Tryd.checked) (X := fun w _ => laidMetH Tryd.prog laid2 w) (fun _ _ _ hh h => h.of_heap hh) own started (by kernel_rfl) Tryd.func6
    (ChangeSpec.witness_shaped (enc := enc) (C := Tryd.checked) (os := os) (X := fun w _ => laidMetH Tryd.prog laid2 w) false (World.doorLaid Tryd.prog 400 os) #[.agg (Array.replicate 32 (.int .u8 0)), .agg (Array.replicate 32 (.int .u8 0)), .string ByteArray.empty, .string ByteArray.empty] 8 rfl (World.shaped_of_RefB (by kernel_rfl) (by kernel_rfl)) (by kernel_rfl) (by kernel_rfl) (by kernel_rfl) (door_met os _)) ?_
  intro W base args ds gs before hval0 hW _ _ hL _
  have hval : ∀ (j : Nat) t v, Tryd.f6.params[j]? = some t → args[j]? = some v → Value.okWide Tryd.prog W .any base t v := hval0
  have hW' := hW
  obtain ⟨p, q, hA0, hV, rfl, hfz, hnd⟩ := hW
  have hA : DataW.TrodAll enc Tryd.prog W 0 (fun _ => true) true Tryd.f6.params.toList args.toList ds p := hA0
  rw [Tryd.params6] at hA hval
  obtain ⟨v0, vs0, d0, ds0, p0, q0, hargs, rfl, rfl, h0, r0⟩ := trodAll_cons hA
  obtain ⟨v1, vs1, d1, ds1, p1, q1, rfl, rfl, rfl, h1, r1⟩ := trodAll_cons r0
  obtain ⟨v2, vs2, d2, ds2, p2, q2, rfl, rfl, rfl, h2, r2⟩ := trodAll_cons r1
  obtain ⟨v3, vs3, d3, ds3, p3, q3, rfl, rfl, rfl, h3, r3⟩ := trodAll_cons r2
  obtain ⟨rfl, rfl, rfl⟩ := trodAll_nil r3
  obtain rfl : args = #[v0, v1, v2, v3] := by cases args; simp_all
  obtain ⟨rfl, rfl⟩ := trodVars_none hV
  obtain ⟨K0, rfl, l0, b0⟩ := okKey (hval 0 23 v0 rfl rfl)
  have k0 := h0
  have lt0 : ∀ x ∈ p0, x.block < W.heap.size := by obtain ⟨m, hm⟩ := k0; exact DataW.trod_lt m _ _ _ hm
  obtain ⟨K1, rfl, l1, b1⟩ := okKey (hval 1 23 v1 rfl rfl)
  have k1 := h1
  have lt1 : ∀ x ∈ p1, x.block < W.heap.size := by obtain ⟨m, hm⟩ := k1; exact DataW.trod_lt m _ _ _ hm
  obtain ⟨a2, rfl, rfl, rfl, w2⟩ := open_string Tryd.underlying9 (hval 2 9 v2 rfl rfl) h2
  obtain ⟨a3, rfl, rfl, rfl, w3⟩ := open_string Tryd.underlying9 (hval 3 9 v3 rfl rfl) h3
  have hT := of_laid hL
  clear hA0 hval0
  refine (walk K0 K1 a2 a3 b0 l0 b1 l1 w2 w3 W hT).mono fun e W' ⟨he, bel⟩ => ?_
  subst he
  exact ⟨_, rfl, _, _, _, [], _, [], hW', trodAll_mk1 (shut_bool Tryd.underlying4 _), (trodAll_cons_mk (Below.trod laidOut (by kernel_rfl) (of_decide_eq_true (by kernel_rfl)) k0 bel lt0) (trodAll_cons_mk (Below.trod laidOut (by kernel_rfl) (of_decide_eq_true (by kernel_rfl)) k1 bel lt1) (trodAll_cons_mk (shut_string Tryd.underlying9 w2) (trodAll_cons_mk (shut_string Tryd.underlying9 w3) trodAll_mk0)))), rfl, bel.frame _, fun h => by cases h⟩

theorem bare : Rows.SealKeysSaid :=
  OpenClaim.holds_of_wide 6 Tryd.f6 rfl rfl rfl rfl rfl rfl rfl ⟨rfl, rfl, rfl, rfl, rfl⟩ rfl rfl rfl rfl rfl (by kernel_rfl) Tryd.func6 (by kernel_rfl)
    (of_decide_eq_true (by kernel_rfl)) (by unfold Func.isWrapper; first | (rw [if_pos (by decide +kernel)]; kernel_rfl) | (rw [if_neg (by decide +kernel)]; exact ⟨rfl, rfl⟩))
    (fun os started H enc _ => lifted os started H enc)

/-- the statement -/
theorem proved : Rows.SealKeysCardSaid :=
  Claim7.holds_tied_plain_at .later [] [.data, .data] true Rows.sealKeysCard.stood.harness false
    bare (fun _ h => by cases h) (by kernel_rfl) (fun _ h => by cases h) sealKeys_row_tie rfl ⟨rfl, rfl⟩ (by kernel_rfl) rfl
    (fun f fn hf hfn => by
      obtain rfl : f = 6 := Option.some.inj ((show Tryd.prog.funcNamed "hibernacle/hibernaclelaw04.SealKeys" = some 6 by kernel_rfl).symm.trans hf) |>.symm
      obtain rfl : fn = Tryd.f6 := (Option.some.inj (Tryd.func6.symm.trans hfn)).symm
      exact ⟨by kernel_rfl, fun j t ht => by
        rw [Tryd.params6] at ht
        have hm : t ∈ [23, 23, 9, 9] := by simpa using Array.mem_of_getElem? ht
        have hall : ([23, 23, 9, 9].all fun u => !Tryd.prog.wantsStandIn u) = true := by kernel_rfl
        exact (show Tryd.prog.wantsStandIn t = false by simpa using List.all_eq_true.1 hall t hm)⟩)
    (by kernel_rfl)
end Go.Proofs.YtdmlfibnhcdhkaaDoor.sealKeys
