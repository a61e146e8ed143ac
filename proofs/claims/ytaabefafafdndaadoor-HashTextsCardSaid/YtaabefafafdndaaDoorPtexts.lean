/-
  For every two digests the law HashTexts returns true: a digest's text is the document's and tells the digest again; the package's two tables start as the program's text lays them.
-/
import Derived.Test.YtaabefafafdndaaDoorRows
import Derived.Test.YtaabefafafdndaaDoorCards
import Derived.Test.YtaabefafafdndaaDoorTie
import Derived.Test.YtaabefafafdndaaDoorEq
import Derived.WalkKit
import Derived.ProofKit
import Derived.LaidMore
import Derived.OpenShut
import Derived.ShutString
import Derived.Stop.Joined
import Derived.Test.YtaabefafafdndaaDoorLw
namespace Go.Proofs.YtaabefafafdndaaDoor.hashTexts
open Go.ChangeShapes Go.WideShapes Go.ChangeAt Go.RowKit
open Go.ChangeMaps (open_string shut_string)
set_option linter.unusedVariables false

theorem own : ownKnob Tryd.prog.godebug = none := by kernel_rfl
def laid2 {H : Type} : List (String × DataW H) := [("hibernacle/hash.eight", Rows.laid_hibernacle_hash_eight), ("hibernacle/hash.rows", Rows.laid_hibernacle_hash_rows)]
theorem door_met (os : Os) (args : Array Value) : laidMetH Tryd.prog laid2 ((World.doorLaid Tryd.prog 400 os).forCall (fun _ _ => 0) ⟨#[], args, []⟩).memory :=
  laidMetH_of_parts3 (fuel := 8) (laidMet_of_run' 8 (by kernel_rfl) (by kernel_rfl)) (by kernel_rfl) (by kernel_rfl)
structure Dt (w wr : World) (D E : List Nat) : Prop where
  d : Own wr w.heap.size 24 (vs .u8 D)
  e : Own wr (w.heap.size + 1) 24 (vs .u8 E)
  b : Below w.heap.size w wr
theorem Dt.below {w wr w1 : World} {D E : List Nat} (o : Dt w wr D E) (hx : Below wr.heap.size wr w1) : Dt w w1 D E :=
  have := o.e.lt
  ⟨Below.own hx o.d (by omega), Below.own hx o.e (by omega), o.b.trans (hx.mono o.b.size)⟩
theorem Dt.drew {w wr : World} {D E : List Nat} (o : Dt w wr D E) : Dt w wr.drew D E := ⟨o.d, o.e, o.b.drew⟩
theorem Dt.alloc {w wr : World} {D E : List Nat} (o : Dt w wr D E) (ob : Obj) : Dt w (wr.alloc ob) D E := o.below ((Below.refl _ _).alloc (Nat.le_refl _) _)
set_option maxRecDepth 100000 in
set_option maxHeartbeats 2000000 in
theorem walk (D E : List Nat) (hD : Bl.By D) (lD : D.length = 32) (hE : Bl.By E) (lE : E.length = 32) (w : World) (hT : Tab w) :
    Calls Tryd.prog 6 #[.agg (vs .u8 D), .agg (vs .u8 E)] w fun e w' => e = .returned (.bool true) ∧ Below w.heap.size w w' := by
  obtain ⟨W0, hW0⟩ : ∃ W0, W0 = (w.alloc (Obj.cells (vs .u8 D) 24)).alloc (Obj.cells (vs .u8 E) 24) := ⟨_, rfl⟩
  have st : Dt w W0 D E := by
    rw [hW0]; exact ⟨(Own.new _ _ _).alloc _, Own.new' _ _ _ (by simp), ((Below.refl _ w).alloc (Nat.le_refl _) _).alloc (by simp) _⟩
  have ha := alive_any W0 (hT.below st.b)
  have hxD := fun w1 => hex_any D hD lD w1
  have hxE := fun w1 => hex_any E hE lE w1
  have hrD := fun w1 => rhex_any D hD lD w1
  have hof : ∀ w1, Calls Tryd.prog 16 #[.string (bs (Bl.hex D))] w1 fun e w' => e = .returned (.tuple #[.agg (vs .u8 D), .bool true]) ∧ Below w1.heap.size w1 w' := fun w1 => by
    have := of_any (bs (Bl.hex D)) w1
    rw [tn_hex hD, of_hex hD lD, isD_hex hD lD] at this
    exact this
  have hinj : bs (Bl.hex D) = bs (Bl.hex E) → D = E := hex_inj hD hE lD lE
  have hcong : D = E → bs (Bl.hex D) = bs (Bl.hex E) := fun h => by rw [h]
  generalize bs (Bl.hex D) = s at *
  generalize bs (Bl.hex E) = t at *
  have hdec : decide (s = t) = decide (D = E) := by
    by_cases h : D = E
    · simp [h, hcong h]
    · have : ¬ s = t := fun k => h (hinj k)
      simp [h, this]
  have hbe : (s.toList == t.toList) = decide (D = E) := by
    rw [← hdec, Go.ByteArray.toList_eq, Go.ByteArray.toList_eq, Bool.eq_iff_iff]
    simp only [beq_iff_eq, decide_eq_true_eq]
    constructor
    · intro h; exact ByteArray.ext (Array.ext' h)
    · rintro rfl; rfl
  have HD := Lib.hid hbe
  clear hbe
  clear hinj hcong hdec
  have HW0 := Lib.hid hW0
  clear hW0
  go_enter Tryd.func6, Tryd.ntmps6
  go_wp2_with fail
  change Calls _ _ _ ((w.alloc (Obj.cells (vs .u8 D) 24)).alloc (Obj.cells (vs .u8 E) 24)) _
  rw [← HW0.out]
  refine ha.mono ?_
  rintro e w1 ⟨rfl, hx⟩
  replace st := st.below hx
  clear hx ha HW0
  go_wp2_with fail
  have hlt := st.e.lt
  obtain ⟨B, hB⟩ : ∃ B, B = w.heap.size := ⟨_, rfl⟩
  refine wp_region_any (by kernel_rfl) ?_
  change wpAny _ _ _ _ _ _ _ w1.drew
  replace st := st.drew
  refine wpAny_ready (rs := [0, 2]) (by kernel_rfl) (by simp) ?_
  refine AllReady.cons (o := { dst := some 11, op := Op.load 24 (Operand.tmp 2), type := _, pos := _, after := _, guard := _ }) rfl (fun KK hKK => ?_) ?_
  · have hKS := Lib.hid hKK
    clear hKK
    rw [if_pos (by rfl)]
    refine lw t24 _ rfl _ rfl st.d lD ?_
    refine hKS.out _ _ ?_
    clear hKS KK
    try simp only [Act.put, List.setIfInBounds_toArray, List.set_cons_zero, List.set_cons_succ]
    refine wpAny_ready (rs := [1, 2]) (by kernel_rfl) (by simp) ?_
    refine AllReady.cons (o := { dst := some 12, op := Op.call { callee := Callee.value (Operand.func 15), args := #[Operand.tmp 11], argTypes := #[24] }, type := _, pos := _, after := _, guard := _ }) rfl (fun KK hKK => ?_) ?_
    · have hKS := Lib.hid hKK
      clear hKK
      go_simp
      refine (hxD _).mono ?_
      rintro e w11 ⟨rfl, hx⟩
      go_wp2_with fail
      replace st := st.below hx
      clear hx
      refine hKS.out _ _ ?_
      clear hKS KK
      try simp only [Act.put, List.setIfInBounds_toArray, List.set_cons_zero, List.set_cons_succ]
      refine wpAny_ready (rs := [2]) (by kernel_rfl) (by simp) ?_
      refine AllReady.cons (o := { dst := some 13, op := Op.load 24 (Operand.tmp 3), type := _, pos := _, after := _, guard := _ }) rfl (fun KK hKK => ?_) AllReady.nil
      have hKS := Lib.hid hKK
      clear hKK
      rw [if_pos (by rfl)]
      refine lw t24 _ rfl _ rfl st.e lE ?_
      refine hKS.out _ _ ?_
      clear hKS KK
      try simp only [Act.put, List.setIfInBounds_toArray, List.set_cons_zero, List.set_cons_succ]
      refine wpAny_ready (rs := [3]) (by kernel_rfl) (by simp) ?_
      refine AllReady.cons (o := { dst := some 14, op := Op.call { callee := Callee.value (Operand.func 15), args := #[Operand.tmp 13], argTypes := #[24] }, type := _, pos := _, after := _, guard := _ }) rfl (fun KK hKK => ?_) AllReady.nil
      have hKS := Lib.hid hKK
      clear hKK
      go_simp
      refine (hxE _).mono ?_
      rintro e w13 ⟨rfl, hx⟩
      go_wp2_with fail
      replace st := st.below hx
      clear hx
      refine hKS.out _ _ ?_
      clear hKS KK
      try simp only [Act.put, List.setIfInBounds_toArray, List.set_cons_zero, List.set_cons_succ]
      refine wpAny_ready (rs := [4]) (by kernel_rfl) (by simp) ?_
      refine AllReady.cons (o := { dst := some 5, op := Op.assign (Operand.tmp 12), type := _, pos := _, after := _, guard := _ }) rfl (fun KK hKK => ?_) AllReady.nil
      have hKS := Lib.hid hKK
      clear hKK
      go_simp
      refine hKS.out _ _ ?_
      clear hKS KK
      try simp only [Act.put, List.setIfInBounds_toArray, List.set_cons_zero, List.set_cons_succ]
      refine wpAny_ready (rs := [5]) (by kernel_rfl) (by simp) ?_
      refine AllReady.cons (o := { dst := some 6, op := Op.assign (Operand.tmp 14), type := _, pos := _, after := _, guard := _ }) rfl (fun KK hKK => ?_) AllReady.nil
      have hKS := Lib.hid hKK
      clear hKK
      go_simp
      refine hKS.out _ _ ?_
      clear hKS KK
      try simp only [Act.put, List.setIfInBounds_toArray, List.set_cons_zero, List.set_cons_succ]
      refine wpAny_done (by kernel_rfl) ?_ _
      clear hxD hxE
      go_wp2_with fail
      refine (hof _).mono ?_
      rintro e w20 ⟨rfl, hx⟩
      replace st := st.below hx
      clear hx hof
      have o5 : Own (w20.alloc (Obj.cells (vs .u8 D) 24)) w20.heap.size 24 (vs .u8 D) := Own.new _ _ _
      have l5 := o5.lt
      have st5 := st.alloc (Obj.cells (vs .u8 D) 24)
      go_wp2_with (first | (refine ldw t24 rfl rfl rfl st5.d lD ?_) | (refine sto_new (l := D) t24 rfl rfl rfl rfl rfl rfl lD ?_; generalize w20.alloc (Obj.cells (vs .u8 D) 24) = W5 at *; generalize w20.heap.size = g4 at *))
      refine (hrD _).mono ?_
      rintro e w22 ⟨rfl, hx⟩
      replace st5 := st5.below hx
      replace o5 := Below.own hx o5 l5
      clear hx hrD
      go_wp2_with (first | (refine ldw t24 rfl rfl rfl st5.d lD ?_) | (refine ldw t24 rfl rfl rfl o5 lD ?_) | (refine ldw t24 rfl rfl rfl st5.e lE ?_) | (refine cmpw (L := D) (M := D) rfl rfl rfl rfl lD lD ?_; rw [show decide (D = D) = true from by simp]) | (refine cmpw (L := D) (M := E) rfl rfl rfl rfl lD lE ?_))
      go_ret
      exact ⟨by rw [HD.out]; simp, st5.b⟩
    refine AllReady.cons (o := { dst := some 13, op := Op.load 24 (Operand.tmp 3), type := _, pos := _, after := _, guard := _ }) rfl (fun KK hKK => ?_) AllReady.nil
    · have hKS := Lib.hid hKK
      clear hKK
      rw [if_pos (by rfl)]
      refine lw t24 _ rfl _ rfl st.e lE ?_
      refine hKS.out _ _ ?_
      clear hKS KK
      try simp only [Act.put, List.setIfInBounds_toArray, List.set_cons_zero, List.set_cons_succ]
      refine wpAny_ready (rs := [1]) (by kernel_rfl) (by simp) ?_
      refine AllReady.cons (o := { dst := some 12, op := Op.call { callee := Callee.value (Operand.func 15), args := #[Operand.tmp 11], argTypes := #[24] }, type := _, pos := _, after := _, guard := _ }) rfl (fun KK hKK => ?_) AllReady.nil
      have hKS := Lib.hid hKK
      clear hKK
      go_simp
      refine (hxD _).mono ?_
      rintro e w11 ⟨rfl, hx⟩
      go_wp2_with fail
      replace st := st.below hx
      clear hx
      refine hKS.out _ _ ?_
      clear hKS KK
      try simp only [Act.put, List.setIfInBounds_toArray, List.set_cons_zero, List.set_cons_succ]
      refine wpAny_ready (rs := [3]) (by kernel_rfl) (by simp) ?_
      refine AllReady.cons (o := { dst := some 14, op := Op.call { callee := Callee.value (Operand.func 15), args := #[Operand.tmp 13], argTypes := #[24] }, type := _, pos := _, after := _, guard := _ }) rfl (fun KK hKK => ?_) AllReady.nil
      have hKS := Lib.hid hKK
      clear hKK
      go_simp
      refine (hxE _).mono ?_
      rintro e w13 ⟨rfl, hx⟩
      go_wp2_with fail
      replace st := st.below hx
      clear hx
      refine hKS.out _ _ ?_
      clear hKS KK
      try simp only [Act.put, List.setIfInBounds_toArray, List.set_cons_zero, List.set_cons_succ]
      refine wpAny_ready (rs := [4]) (by kernel_rfl) (by simp) ?_
      refine AllReady.cons (o := { dst := some 5, op := Op.assign (Operand.tmp 12), type := _, pos := _, after := _, guard := _ }) rfl (fun KK hKK => ?_) AllReady.nil
      have hKS := Lib.hid hKK
      clear hKK
      go_simp
      refine hKS.out _ _ ?_
      clear hKS KK
      try simp only [Act.put, List.setIfInBounds_toArray, List.set_cons_zero, List.set_cons_succ]
      refine wpAny_ready (rs := [5]) (by kernel_rfl) (by simp) ?_
      refine AllReady.cons (o := { dst := some 6, op := Op.assign (Operand.tmp 14), type := _, pos := _, after := _, guard := _ }) rfl (fun KK hKK => ?_) AllReady.nil
      have hKS := Lib.hid hKK
      clear hKK
      go_simp
      refine hKS.out _ _ ?_
      clear hKS KK
      try simp only [Act.put, List.setIfInBounds_toArray, List.set_cons_zero, List.set_cons_succ]
      refine wpAny_done (by kernel_rfl) ?_ _
      clear hxD hxE
      go_wp2_with fail
      refine (hof _).mono ?_
      rintro e w20 ⟨rfl, hx⟩
      replace st := st.below hx
      clear hx hof
      have o5 : Own (w20.alloc (Obj.cells (vs .u8 D) 24)) w20.heap.size 24 (vs .u8 D) := Own.new _ _ _
      have l5 := o5.lt
      have st5 := st.alloc (Obj.cells (vs .u8 D) 24)
      go_wp2_with (first | (refine ldw t24 rfl rfl rfl st5.d lD ?_) | (refine sto_new (l := D) t24 rfl rfl rfl rfl rfl rfl lD ?_; generalize w20.alloc (Obj.cells (vs .u8 D) 24) = W5 at *; generalize w20.heap.size = g4 at *))
      refine (hrD _).mono ?_
      rintro e w22 ⟨rfl, hx⟩
      replace st5 := st5.below hx
      replace o5 := Below.own hx o5 l5
      clear hx hrD
      go_wp2_with (first | (refine ldw t24 rfl rfl rfl st5.d lD ?_) | (refine ldw t24 rfl rfl rfl o5 lD ?_) | (refine ldw t24 rfl rfl rfl st5.e lE ?_) | (refine cmpw (L := D) (M := D) rfl rfl rfl rfl lD lD ?_; rw [show decide (D = D) = true from by simp]) | (refine cmpw (L := D) (M := E) rfl rfl rfl rfl lD lE ?_))
      go_ret
      exact ⟨by rw [HD.out]; simp, st5.b⟩
  refine AllReady.cons (o := { dst := some 13, op := Op.load 24 (Operand.tmp 3), type := _, pos := _, after := _, guard := _ }) rfl (fun KK hKK => ?_) AllReady.nil
  · have hKS := Lib.hid hKK
    clear hKK
    rw [if_pos (by rfl)]
    refine lw t24 _ rfl _ rfl st.e lE ?_
    refine hKS.out _ _ ?_
    clear hKS KK
    try simp only [Act.put, List.setIfInBounds_toArray, List.set_cons_zero, List.set_cons_succ]
    refine wpAny_ready (rs := [0]) (by kernel_rfl) (by simp) ?_
    refine AllReady.cons (o := { dst := some 11, op := Op.load 24 (Operand.tmp 2), type := _, pos := _, after := _, guard := _ }) rfl (fun KK hKK => ?_) AllReady.nil
    have hKS := Lib.hid hKK
    clear hKK
    rw [if_pos (by rfl)]
    refine lw t24 _ rfl _ rfl st.d lD ?_
    refine hKS.out _ _ ?_
    clear hKS KK
    try simp only [Act.put, List.setIfInBounds_toArray, List.set_cons_zero, List.set_cons_succ]
    refine wpAny_ready (rs := [1]) (by kernel_rfl) (by simp) ?_
    refine AllReady.cons (o := { dst := some 12, op := Op.call { callee := Callee.value (Operand.func 15), args := #[Operand.tmp 11], argTypes := #[24] }, type := _, pos := _, after := _, guard := _ }) rfl (fun KK hKK => ?_) AllReady.nil
    have hKS := Lib.hid hKK
    clear hKK
    go_simp
    refine (hxD _).mono ?_
    rintro e w11 ⟨rfl, hx⟩
    go_wp2_with fail
    replace st := st.below hx
    clear hx
    refine hKS.out _ _ ?_
    clear hKS KK
    try simp only [Act.put, List.setIfInBounds_toArray, List.set_cons_zero, List.set_cons_succ]
    refine wpAny_ready (rs := [3]) (by kernel_rfl) (by simp) ?_
    refine AllReady.cons (o := { dst := some 14, op := Op.call { callee := Callee.value (Operand.func 15), args := #[Operand.tmp 13], argTypes := #[24] }, type := _, pos := _, after := _, guard := _ }) rfl (fun KK hKK => ?_) AllReady.nil
    have hKS := Lib.hid hKK
    clear hKK
    go_simp
    refine (hxE _).mono ?_
    rintro e w13 ⟨rfl, hx⟩
    go_wp2_with fail
    replace st := st.below hx
    clear hx
    refine hKS.out _ _ ?_
    clear hKS KK
    try simp only [Act.put, List.setIfInBounds_toArray, List.set_cons_zero, List.set_cons_succ]
    refine wpAny_ready (rs := [4]) (by kernel_rfl) (by simp) ?_
    refine AllReady.cons (o := { dst := some 5, op := Op.assign (Operand.tmp 12), type := _, pos := _, after := _, guard := _ }) rfl (fun KK hKK => ?_) AllReady.nil
    have hKS := Lib.hid hKK
    clear hKK
    go_simp
    refine hKS.out _ _ ?_
    clear hKS KK
    try simp only [Act.put, List.setIfInBounds_toArray, List.set_cons_zero, List.set_cons_succ]
    refine wpAny_ready (rs := [5]) (by kernel_rfl) (by simp) ?_
    refine AllReady.cons (o := { dst := some 6, op := Op.assign (Operand.tmp 14), type := _, pos := _, after := _, guard := _ }) rfl (fun KK hKK => ?_) AllReady.nil
    have hKS := Lib.hid hKK
    clear hKK
    go_simp
    refine hKS.out _ _ ?_
    clear hKS KK
    try simp only [Act.put, List.setIfInBounds_toArray, List.set_cons_zero, List.set_cons_succ]
    refine wpAny_done (by kernel_rfl) ?_ _
    clear hxD hxE
    go_wp2_with fail
    refine (hof _).mono ?_
    rintro e w20 ⟨rfl, hx⟩
    replace st := st.below hx
    clear hx hof
    have o5 : Own (w20.alloc (Obj.cells (vs .u8 D) 24)) w20.heap.size 24 (vs .u8 D) := Own.new _ _ _
    have l5 := o5.lt
    have st5 := st.alloc (Obj.cells (vs .u8 D) 24)
    go_wp2_with (first | (refine ldw t24 rfl rfl rfl st5.d lD ?_) | (refine sto_new (l := D) t24 rfl rfl rfl rfl rfl rfl lD ?_; generalize w20.alloc (Obj.cells (vs .u8 D) 24) = W5 at *; generalize w20.heap.size = g4 at *))
    refine (hrD _).mono ?_
    rintro e w22 ⟨rfl, hx⟩
    replace st5 := st5.below hx
    replace o5 := Below.own hx o5 l5
    clear hx hrD
    go_wp2_with (first | (refine ldw t24 rfl rfl rfl st5.d lD ?_) | (refine ldw t24 rfl rfl rfl o5 lD ?_) | (refine ldw t24 rfl rfl rfl st5.e lE ?_) | (refine cmpw (L := D) (M := D) rfl rfl rfl rfl lD lD ?_; rw [show decide (D = D) = true from by simp]) | (refine cmpw (L := D) (M := E) rfl rfl rfl rfl lD lE ?_))
    go_ret
    exact ⟨by rw [HD.out]; simp, st5.b⟩

set_option maxRecDepth 100000 in
theorem lifted (os : Os) (started : os.Started) (H : Type) (enc : TypeId × Value → H) :
    ReturnsInHanded {} Tryd.checked os 6 .any (fun w args => (Rows.hashTextsSpec.pre enc Tryd.prog Tryd.f6 [] false w args ∧ laidMetH Tryd.prog laid2 w) ∧ sizedMet enc Tryd.prog Tryd.f6 (OpenSpec.ofChange Rows.hashTextsSpec) false w args)
      (Rows.hashTextsSpec.post enc Tryd.prog Tryd.f6 false true false false) := by
  refine returnsInHanded_of_change_and (C := Tryd.checked) (X := fun w _ => laidMetH Tryd.prog laid2 w) (fun _ _ _ hh h => h.of_heap hh) own started (by kernel_rfl) Tryd.func6
    (ChangeSpec.witness_shaped (enc := enc) (C := Tryd.checked) (os := os) (X := fun w _ => laidMetH Tryd.prog laid2 w) false (World.doorLaid Tryd.prog 400 os) #[.agg (Array.replicate 32 (.int .u8 0)), .agg (Array.replicate 32 (.int .u8 0))] 8 rfl (World.shaped_of_RefB (by kernel_rfl) (by kernel_rfl)) (by kernel_rfl) (by kernel_rfl) (by kernel_rfl) (door_met os _)) ?_
  intro W base args ds gs before hval0 hW _ _ hL _
  have hval : ∀ (j : Nat) t v, Tryd.f6.params[j]? = some t → args[j]? = some v → Value.okWide Tryd.prog W .any base t v := hval0
  have hW' := hW
  obtain ⟨p, q, hA0, hV, rfl, hfz, hnd⟩ := hW
  have hA : DataW.TrodAll enc Tryd.prog W 0 (fun _ => true) true Tryd.f6.params.toList args.toList ds p := hA0
  rw [Tryd.params6] at hA hval
  obtain ⟨v0, vs0, d0, ds0, p0, q0, hargs, rfl, rfl, h0, r0⟩ := trodAll_cons hA
  obtain ⟨v1, vs1, d1, ds1, p1, q1, rfl, rfl, rfl, h1, r1⟩ := trodAll_cons r0
  obtain ⟨rfl, rfl, rfl⟩ := trodAll_nil r1
  obtain rfl : args = #[v0, v1] := by cases args; simp_all
  obtain ⟨rfl, rfl⟩ := trodVars_none hV
  obtain ⟨K0, rfl, l0, b0⟩ := okDig (hval 0 24 v0 rfl rfl)
  have k0 := h0
  have lt0 : ∀ x ∈ p0, x.block < W.heap.size := by obtain ⟨m, hm⟩ := k0; exact DataW.trod_lt m _ _ _ hm
  obtain ⟨K1, rfl, l1, b1⟩ := okDig (hval 1 24 v1 rfl rfl)
  have k1 := h1
  have lt1 : ∀ x ∈ p1, x.block < W.heap.size := by obtain ⟨m, hm⟩ := k1; exact DataW.trod_lt m _ _ _ hm
  have hT := of_laid hL
  clear hA0 hval0
  refine (walk K0 K1 b0 l0 b1 l1 W hT).mono fun e W' ⟨he, bel⟩ => ?_
  subst he
  exact ⟨_, rfl, _, _, _, [], _, [], hW', trodAll_mk1 (shut_bool Tryd.underlying4 _), (trodAll_cons_mk (Below.trod laidOut (by kernel_rfl) (of_decide_eq_true (by kernel_rfl)) k0 bel lt0) (trodAll_cons_mk (Below.trod laidOut (by kernel_rfl) (of_decide_eq_true (by kernel_rfl)) k1 bel lt1) trodAll_mk0)), rfl, bel.frame _, fun h => by cases h⟩

theorem bare : Rows.HashTextsSaid :=
  OpenClaim.holds_of_wide 6 Tryd.f6 rfl rfl rfl rfl rfl rfl rfl ⟨rfl, rfl, rfl, rfl, rfl⟩ rfl rfl rfl rfl rfl (by kernel_rfl) Tryd.func6 (by kernel_rfl)
    (of_decide_eq_true (by kernel_rfl)) (by unfold Func.isWrapper; first | (rw [if_pos (by decide +kernel)]; kernel_rfl) | (rw [if_neg (by decide +kernel)]; exact ⟨rfl, rfl⟩))
    (fun os started H enc _ => lifted os started H enc)

/-- the statement -/
theorem proved : Rows.HashTextsCardSaid :=
  Claim7.holds_tied_plain_at .later [] [.data, .data] true Rows.hashTextsCard.stood.harness false
    bare (fun _ h => by cases h) (by kernel_rfl) (fun _ h => by cases h) hashTexts_row_tie rfl ⟨rfl, rfl⟩ (by kernel_rfl) rfl
    (fun f fn hf hfn => by
      obtain rfl : f = 6 := Option.some.inj ((show Tryd.prog.funcNamed "hibernacle/hibernaclelaw02.HashTexts" = some 6 by kernel_rfl).symm.trans hf) |>.symm
      obtain rfl : fn = Tryd.f6 := (Option.some.inj (Tryd.func6.symm.trans hfn)).symm
      exact ⟨by kernel_rfl, fun j t ht => by
        rw [Tryd.params6] at ht
        have hm : t ∈ [24, 24] := by simpa using Array.mem_of_getElem? ht
        have hall : ([24, 24].all fun u => !Tryd.prog.wantsStandIn u) = true := by kernel_rfl
        exact (show Tryd.prog.wantsStandIn t = false by simpa using List.all_eq_true.1 hall t hm)⟩)
    (by kernel_rfl)
end Go.Proofs.YtaabefafafdndaaDoor.hashTexts
