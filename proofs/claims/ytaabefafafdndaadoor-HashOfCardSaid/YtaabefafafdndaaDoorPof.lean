/-
  For every text the law HashOf returns true: the digest of any text, or that there is none, is the document's; the package's two tables start as the program's text lays them.
-/
import Derived.Test.YtaabefafafdndaaDoorRows
import Derived.Test.YtaabefafafdndaaDoorCards
import Derived.Test.YtaabefafafdndaaDoorTie
import Derived.Test.YtaabefafafdndaaDoorEq
import Derived.WalkKit
import Derived.ProofKit
import Derived.LaidMore
import Derived.OpenShut
import Derived.ShutString
import Derived.Stop.Joined
import Derived.Test.YtaabefafafdndaaDoorLw
namespace Go.Proofs.YtaabefafafdndaaDoor.hashOf
open Go.ChangeShapes Go.WideShapes Go.ChangeAt Go.RowKit
open Go.ChangeMaps (open_string shut_string)
set_option linter.unusedVariables false

theorem own : ownKnob Tryd.prog.godebug = none := by kernel_rfl
def laid2 {H : Type} : List (String × DataW H) := [("hibernacle/hash.eight", Rows.laid_hibernacle_hash_eight), ("hibernacle/hash.rows", Rows.laid_hibernacle_hash_rows)]
theorem door_met (os : Os) (args : Array Value) : laidMetH Tryd.prog laid2 ((World.doorLaid Tryd.prog 400 os).forCall (fun _ _ => 0) ⟨#[], args, []⟩).memory :=
  laidMetH_of_parts3 (fuel := 8) (laidMet_of_run' 8 (by kernel_rfl) (by kernel_rfl)) (by kernel_rfl) (by kernel_rfl)
set_option maxRecDepth 100000 in
set_option maxHeartbeats 1000000 in
theorem walk (s : ByteArray) (ws : s.size ≤ maxLen) (w : World) (hT : Tab w) :
    Calls Tryd.prog 7 #[.string s] w fun e w' => e = .returned (.bool true) ∧ Below w.heap.size w w' := by
  have ha := alive_any w hT
  by_cases hbig : 300 < s.size
  · have d0 : 300 < (s.size : Int) := by omega
    go_enter Tryd.func7, Tryd.ntmps7
    go_wp2_with fail
    refine ha.mono ?_
    rintro e w1 ⟨rfl, hb⟩
    go_wp2_with fail
    go_ret
    exact ⟨rfl, hb⟩
  · have d0 : decide (300 < (s.size : Int)) = false := by simp; omega
    have lD := ofD_length (tn s)
    have h1 := of_any s
    have h2 := rof_any s
    have hh : isD (tn s) = true → bs (Bl.hex (ofD (tn s))) = s := fun h => by rw [hex_of (tn_by s) h, bs_tn]
    have bD : Bl.By (ofD (tn s)) := by
      unfold ofD
      split
      · intro x hx
        obtain ⟨i, _, rfl⟩ := List.mem_map.1 hx
        have z1 := hz_lt (Bl.nth (tn s) (2 * i))
        have z2 := hz_lt (Bl.nth (tn s) (2 * i + 1))
        unfold val; omega
      · intro x hx; rw [List.eq_of_mem_replicate hx]; decide
    generalize ofD (tn s) = D at *
    generalize isD (tn s) = ok at *
    go_enter Tryd.func7, Tryd.ntmps7
    go_wp2_with fail
    refine ha.mono ?_
    rintro e w1 ⟨rfl, hb1⟩
    go_wp2_with fail
    refine (h1 _).mono ?_
    rintro e w2 ⟨rfl, hx⟩
    have hb2 := hb1.trans (hx.mono hb1.size)
    clear hx
    have o2 : Own (w2.alloc (Obj.cells (vs .u8 D) 24)) w2.heap.size 24 (vs .u8 D) := Own.new _ _ _
    have hb3 := hb2.alloc hb2.size (Obj.cells (vs .u8 D) 24)
    go_wp2_with (refine sto_new (l := D) t24 rfl rfl rfl rfl rfl rfl lD ?_; generalize w2.alloc (Obj.cells (vs .u8 D) 24) = W3 at *)
    have l2 := o2.lt
    generalize w2.heap.size = g2 at *
    refine (h2 _).mono ?_
    rintro e w4 ⟨rfl, hx⟩
    have o4 := Below.own hx o2 l2
    have hb4 := hb3.trans (hx.mono hb3.size)
    clear hx o2
    have o5 : Own (w4.alloc (Obj.cells (vs .u8 D) 24)) w4.heap.size 24 (vs .u8 D) := Own.new _ _ _
    have o6 := o4.alloc (Obj.cells (vs .u8 D) 24)
    have hb5 := hb4.alloc hb4.size (Obj.cells (vs .u8 D) 24)
    cases ok
    · go_wp2_with (first | (refine ldw t24 rfl rfl rfl o6 lD ?_) | (refine ldw t24 rfl rfl rfl o5 lD ?_) | (refine cmpw (L := D) (M := D) rfl rfl rfl rfl lD lD ?_; rw [show decide (D = D) = true from by simp]) | (refine sto_new (l := D) t24 rfl rfl rfl rfl rfl rfl lD ?_; generalize w4.alloc (Obj.cells (vs .u8 D) 24) = W5 at *; generalize w4.heap.size = g4 at *))
      go_ret
      exact ⟨rfl, hb5⟩
    · have hh' := hh rfl
      go_wp2_with (first | (refine ldw t24 rfl rfl rfl o6 lD ?_) | (refine ldw t24 rfl rfl rfl o5 lD ?_) | (refine cmpw (L := D) (M := D) rfl rfl rfl rfl lD lD ?_; rw [show decide (D = D) = true from by simp]) | (refine sto_new (l := D) t24 rfl rfl rfl rfl rfl rfl lD ?_; generalize w4.alloc (Obj.cells (vs .u8 D) 24) = W5 at *; generalize w4.heap.size = g4 at *))
      refine (hex_any D bD lD _).mono ?_
      rintro e w6 ⟨rfl, hx⟩
      have hb6 := hb5.trans (hx.mono hb5.size)
      rw [hh']
      go_wp2_with fail
      go_ret
      exact ⟨by simp, hb6⟩

set_option maxRecDepth 100000 in
theorem lifted (os : Os) (started : os.Started) (H : Type) (enc : TypeId × Value → H) :
    ReturnsInHanded {} Tryd.checked os 7 .any (fun w args => (Rows.hashOfSpec.pre enc Tryd.prog Tryd.f7 [] false w args ∧ laidMetH Tryd.prog laid2 w) ∧ sizedMet enc Tryd.prog Tryd.f7 (OpenSpec.ofChange Rows.hashOfSpec) false w args)
      (Rows.hashOfSpec.post enc Tryd.prog Tryd.f7 false true false false) := by
  refine returnsInHanded_of_change_and (C := Tryd.checked) (X := fun w _ => laidMetH Tryd.prog laid2 w) (fun _ _ _ hh h => h.of_heap hh) own started (by kernel_rfl) Tryd.func7
    (ChangeSpec.witness_shaped (enc := enc) (C := Tryd.checked) (os := os) (X := fun w _ => laidMetH Tryd.prog laid2 w) false (World.doorLaid Tryd.prog 400 os) #[.string ByteArray.empty] 8 rfl (World.shaped_of_RefB (by kernel_rfl) (by kernel_rfl)) (by kernel_rfl) (by kernel_rfl) (by kernel_rfl) (door_met os _)) ?_
  intro W base args ds gs before hval0 hW _ _ hL _
  have hval : ∀ (j : Nat) t v, Tryd.f7.params[j]? = some t → args[j]? = some v → Value.okWide Tryd.prog W .any base t v := hval0
  have hW' := hW
  obtain ⟨p, q, hA0, hV, rfl, hfz, hnd⟩ := hW
  have hA : DataW.TrodAll enc Tryd.prog W 0 (fun _ => true) true Tryd.f7.params.toList args.toList ds p := hA0
  rw [Tryd.params7] at hA hval
  obtain ⟨v0, vs0, d0, ds0, p0, q0, hargs, rfl, rfl, h0, r0⟩ := trodAll_cons hA
  obtain ⟨rfl, rfl, rfl⟩ := trodAll_nil r0
  obtain rfl : args = #[v0] := by cases args; simp_all
  obtain ⟨rfl, rfl⟩ := trodVars_none hV
  obtain ⟨a0, rfl, rfl, rfl, w0⟩ := open_string Tryd.underlying9 (hval 0 9 v0 rfl rfl) h0
  have hT := of_laid hL
  clear hA0 hval0
  refine (walk a0 w0 W hT).mono fun e W' ⟨he, bel⟩ => ?_
  subst he
  exact ⟨_, rfl, _, _, _, [], _, [], hW', trodAll_mk1 (shut_bool Tryd.underlying4 _), (trodAll_cons_mk (shut_string Tryd.underlying9 w0) trodAll_mk0), rfl, bel.frame _, fun h => by cases h⟩

theorem bare : Rows.HashOfSaid :=
  OpenClaim.holds_of_wide 7 Tryd.f7 rfl rfl rfl rfl rfl rfl rfl ⟨rfl, rfl, rfl, rfl, rfl⟩ rfl rfl rfl rfl rfl (by kernel_rfl) Tryd.func7 (by kernel_rfl)
    (of_decide_eq_true (by kernel_rfl)) (by unfold Func.isWrapper; first | (rw [if_pos (by decide +kernel)]; kernel_rfl) | (rw [if_neg (by decide +kernel)]; exact ⟨rfl, rfl⟩))
    (fun os started H enc _ => lifted os started H enc)

/-- the statement -/
theorem proved : Rows.HashOfCardSaid :=
  Claim7.holds_tied_plain_at .later [] [.data, .data] true Rows.hashOfCard.stood.harness false
    bare (fun _ h => by cases h) (by kernel_rfl) (fun _ h => by cases h) hashOf_row_tie rfl ⟨rfl, rfl⟩ (by kernel_rfl) rfl
    (fun f fn hf hfn => by
      obtain rfl : f = 7 := Option.some.inj ((show Tryd.prog.funcNamed "hibernacle/hibernaclelaw02.HashOf" = some 7 by kernel_rfl).symm.trans hf) |>.symm
      obtain rfl : fn = Tryd.f7 := (Option.some.inj (Tryd.func7.symm.trans hfn)).symm
      exact ⟨by kernel_rfl, fun j t ht => by
        rw [Tryd.params7] at ht
        have hm : t ∈ [9] := by simpa using Array.mem_of_getElem? ht
        have hall : ([9].all fun u => !Tryd.prog.wantsStandIn u) = true := by kernel_rfl
        exact (show Tryd.prog.wantsStandIn t = false by simpa using List.all_eq_true.1 hall t hm)⟩)
    (by kernel_rfl)
end Go.Proofs.YtaabefafafdndaaDoor.hashOf
