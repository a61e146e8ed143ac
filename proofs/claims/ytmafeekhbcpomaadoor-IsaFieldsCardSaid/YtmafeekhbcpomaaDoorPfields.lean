/-
  For every instruction, three registers and a number: IsaFields answers true (each field stands in its own bits), and the arguments read behind the call as they read before; the package tables are laid by the program's own text.
-/
import Derived.Test.YtmafeekhbcpomaaDoorRows
import Derived.Test.YtmafeekhbcpomaaDoorCards
import Derived.Test.YtmafeekhbcpomaaDoorTie
import Derived.Test.YtmafeekhbcpomaaDoorLa
import Derived.Test.YtmafeekhbcpomaaDoorLk
import Derived.WalkKit
import Derived.ProofKit
import Derived.LaidMore
import Derived.OpenShut
import Derived.ShutString
import Derived.Stop.Joined
import Derived.OrdersHeld
import Derived.Deep.RegionHeld3
import Derived.Test.YtmafeekhbcpomaaDoorOw
import Derived.Test.YtmafeekhbcpomaaDoorFb
namespace Go.Proofs.YtmafeekhbcpomaaDoor.isaFields
open Go.ChangeShapes Go.WideShapes Go.ChangeAt Go.RowKit
open Go.ChangeMaps (open_string shut_string)
set_option linter.unusedVariables false
set_option linter.unusedSimpArgs false

theorem own : ownKnob Tryd.prog.godebug = none := by kernel_rfl
theorem door_met (os : Os) (args : Array Value) : laidMetH Tryd.prog lay4 ((World.doorLaid Tryd.prog 400 os).forCall (fun _ _ => 0) ⟨#[], args, []⟩).memory :=
  laidMetH_of_parts3 (fuel := 8) (laidMet_of_run' 8 (by kernel_rfl) (by kernel_rfl)) (by kernel_rfl) (by kernel_rfl)
theorem late4 {G : Prop} {F : Nat → Nat → Nat → Nat → World → Prop} (P : Nat → Nat → Nat → Nat → World → Prop) (main : (∀ a b c d w, P a b c d w → F a b c d w) → G) (rest : ∀ a b c d w, P a b c d w → F a b c d w) : G := main rest
set_option maxRecDepth 100000 in
set_option maxHeartbeats 8000000 in
theorem walk (ha : ∀ wr, Tab wr → Al wr) (x : Is.Ins) (m1 m2 m3 : Nat) (n : Int) (hx : x.Ok) (z1 : m1 < 256) (z2 : m2 < 256) (z3 : m3 < 256) (z4 : -2147483648 ≤ n ∧ n ≤ 2147483647) (W : World) (hT : Tab W) :
    Calls Tryd.prog 9 #[.agg (ic x), .int .u8 (m1 : Int), .int .u8 (m2 : Int), .int .u8 (m3 : Int), .int .i32 n] W fun e w' => e = .returned (.bool true) ∧ Below W.heap.size W w' := by
  have h1 := fun wr => enc_any x hx wr
  have hA := fun wr => enc_any { x with a := m1 } ⟨hx.1, z1, hx.2.2.1, hx.2.2.2.1, hx.2.2.2.2⟩ wr
  have hB := fun wr => enc_any { x with b := m2 } ⟨hx.1, hx.2.1, z2, hx.2.2.2.1, hx.2.2.2.2⟩ wr
  have hC := fun wr => enc_any { x with c := m3 } ⟨hx.1, hx.2.1, hx.2.2.1, z3, hx.2.2.2.2⟩ wr
  have hI := fun wr => enc_any { x with imm := n } ⟨hx.1, hx.2.1, hx.2.2.1, hx.2.2.2.1, z4⟩ wr
  obtain ⟨V, hV⟩ : ∃ V, V = W.alloc (Obj.cells (ic x) 23) := ⟨_, rfl⟩
  have st0 : Own V W.heap.size x := by rw [hV]; exact Own.new _ _
  have bV : Below W.heap.size W V := by rw [hV]; exact grow _ _
  have TV := hT.below bV
  have HV := Lib.hid hV
  have lv := Is.enc_lt x
  clear hV hT
  generalize hr : Is.enc x = r at *
  obtain ⟨v, e0⟩ := r
  simp only at h1 lv
  by_cases hn : e0 = 0
  · subst hn
    have HR := Lib.hid hr
    clear hr
    obtain ⟨o, a, b, c, m⟩ := id x
    go_enter Tryd.func9, Tryd.ntmps9
    go_wp2_with fail
    change Calls _ _ _ (W.alloc (Obj.cells (ic x) 23)) _
    rw [← HV.out]
    clear HV
    refine (ha _ TV).mono ?_
    rintro e w1 ⟨rfl, b1⟩
    replace st0 := st0.below b1
    replace bV := bV.trans (b1.mono bV.size)
    clear b1 TV ha
    have ld0 := st0.at_
    obtain ⟨c0, c1, c2, c3, c4⟩ := ld0
    go_wp2_with fail
    refine (h1 _).mono ?_
    rintro e w2 ⟨rfl, b1⟩
    replace st0 := st0.below b1
    replace bV := bV.trans (b1.mono bV.size)
    clear b1 c0 c1 c2 c3 c4 h1
    go_wp2_with fail
    replace st0 := st0.drew
    replace bV := bV.drew
    obtain ⟨B, hB⟩ : ∃ B, B = w2.drew.heap.size := ⟨_, rfl⟩
    refine wp_region_held_drew (S := fun w' => Below B w2.drew w') (by kernel_rfl) (Below.refl _ _) (fun hH => ?_)
    generalize w2.drew = x0 at *
    refine tkH (i := 0) rfl (by kernel_rfl) (by kernel_rfl) (by kernel_rfl) (fun _ _ _ h => h) hH (yldI rfl rfl rfl (fun w1 h => (st0.below (hB ▸ h)).at_)) ?_
    try simp only [Act.put, List.setIfInBounds_toArray, List.set_cons_zero, List.set_cons_succ]
    refine tkH (i := 1) rfl (by kernel_rfl) (by kernel_rfl) (by kernel_rfl) (fun _ _ _ h => h) hH (yldI rfl rfl rfl (fun w1 h => (st0.below (hB ▸ h)).at_)) ?_
    try simp only [Act.put, List.setIfInBounds_toArray, List.set_cons_zero, List.set_cons_succ]
    refine tkH (i := 2) rfl (by kernel_rfl) (by kernel_rfl) (by kernel_rfl) (fun _ _ _ h => h) hH (yldI rfl rfl rfl (fun w1 h => (st0.below (hB ▸ h)).at_)) ?_
    try simp only [Act.put, List.setIfInBounds_toArray, List.set_cons_zero, List.set_cons_succ]
    refine tkH (i := 3) rfl (by kernel_rfl) (by kernel_rfl) (by kernel_rfl) (fun _ _ _ h => h) hH (yldI rfl rfl rfl (fun w1 h => (st0.below (hB ▸ h)).at_)) ?_
    try simp only [Act.put, List.setIfInBounds_toArray, List.set_cons_zero, List.set_cons_succ]
    apply late4 (fun (gY gZ gU gV : Nat) (wF : World) => Own wF gY Is.zero ∧ Own wF gZ Is.zero ∧ Own wF gU Is.zero ∧ Own wF gV Is.zero ∧ gY ≠ gZ ∧ gY ≠ gU ∧ gY ≠ gV ∧ gZ ≠ gU ∧ gZ ≠ gV ∧ gU ≠ gV ∧ B ≤ gY ∧ B ≤ gZ ∧ B ≤ gU ∧ B ≤ gV ∧ Below B x0 wF)
    · intro rest
      refine efs (rs := [4, 5, 6, 7]) (by kernel_rfl) (by decide) ?_
      simp only [List.forall_mem_cons, List.not_mem_nil, false_implies, implies_true, and_true]
      refine ⟨⟨_, rfl, by rfl, ?_⟩, ⟨_, rfl, by rfl, ?_⟩, ⟨_, rfl, by rfl, ?_⟩, ⟨_, rfl, by rfl, ?_⟩⟩
      · intro KK hKK
        go_simp
        change KK _ (x0.alloc (Obj.cells (ic Is.zero) 23))
        have hleY : B ≤ x0.heap.size := by rw [hB]; exact hH.size
        refine hKK.out _ _ (hH.alloc hleY _) (fun hH => ?_)
        clear hKK KK
        try simp only [Act.put, List.setIfInBounds_toArray, List.set_cons_zero, List.set_cons_succ]
        have oY := Own.new x0 Is.zero
        generalize x0.alloc (Obj.cells (ic Is.zero) 23) = v0 at *
        refine efs (rs := [5, 6, 7]) (by kernel_rfl) (by decide) ?_
        simp only [List.forall_mem_cons, List.not_mem_nil, false_implies, implies_true, and_true]
        refine ⟨⟨_, rfl, by rfl, ?_⟩, ⟨_, rfl, by rfl, ?_⟩, ⟨_, rfl, by rfl, ?_⟩⟩
        · intro KK hKK
          go_simp
          change KK _ (v0.alloc (Obj.cells (ic Is.zero) 23))
          have hleZ : B ≤ v0.heap.size := by rw [hB]; exact hH.size
          refine hKK.out _ _ (hH.alloc hleZ _) (fun hH => ?_)
          clear hKK KK
          try simp only [Act.put, List.setIfInBounds_toArray, List.set_cons_zero, List.set_cons_succ]
          have hlt1 := oY.lt
          replace oY := oY.alloc (Obj.cells (ic Is.zero) 23)
          have oZ := Own.new v0 Is.zero
          generalize v0.alloc (Obj.cells (ic Is.zero) 23) = v1 at *
          refine efs (rs := [6, 7]) (by kernel_rfl) (by decide) ?_
          simp only [List.forall_mem_cons, List.not_mem_nil, false_implies, implies_true, and_true]
          refine ⟨⟨_, rfl, by rfl, ?_⟩, ⟨_, rfl, by rfl, ?_⟩⟩
          · intro KK hKK
            go_simp
            change KK _ (v1.alloc (Obj.cells (ic Is.zero) 23))
            have hleU : B ≤ v1.heap.size := by rw [hB]; exact hH.size
            refine hKK.out _ _ (hH.alloc hleU _) (fun hH => ?_)
            clear hKK KK
            try simp only [Act.put, List.setIfInBounds_toArray, List.set_cons_zero, List.set_cons_succ]
            have hlt2 := oZ.lt
            replace oY := oY.alloc (Obj.cells (ic Is.zero) 23)
            replace oZ := oZ.alloc (Obj.cells (ic Is.zero) 23)
            have oU := Own.new v1 Is.zero
            generalize v1.alloc (Obj.cells (ic Is.zero) 23) = v2 at *
            refine efs (rs := [7]) (by kernel_rfl) (by decide) ?_
            simp only [List.forall_mem_cons, List.not_mem_nil, false_implies, implies_true, and_true]
            refine ⟨_, rfl, by rfl, ?_⟩
            intro KK hKK
            go_simp
            change KK _ (v2.alloc (Obj.cells (ic Is.zero) 23))
            have hleV : B ≤ v2.heap.size := by rw [hB]; exact hH.size
            refine hKK.out _ _ (hH.alloc hleV _) (fun hH => ?_)
            clear hKK KK
            try simp only [Act.put, List.setIfInBounds_toArray, List.set_cons_zero, List.set_cons_succ]
            have hlt3 := oU.lt
            replace oY := oY.alloc (Obj.cells (ic Is.zero) 23)
            replace oZ := oZ.alloc (Obj.cells (ic Is.zero) 23)
            replace oU := oU.alloc (Obj.cells (ic Is.zero) 23)
            have oV := Own.new v2 Is.zero
            generalize v2.alloc (Obj.cells (ic Is.zero) 23) = v3 at *
            have dYZ : x0.heap.size ≠ v0.heap.size := by omega
            have dYU : x0.heap.size ≠ v1.heap.size := by omega
            have dYV : x0.heap.size ≠ v2.heap.size := by omega
            have dZU : v0.heap.size ≠ v1.heap.size := by omega
            have dZV : v0.heap.size ≠ v2.heap.size := by omega
            have dUV : v1.heap.size ≠ v2.heap.size := by omega
            clear hlt1 hlt2 hlt3
            generalize x0.heap.size = gY at oY hleY dYZ dYU dYV ⊢
            generalize v0.heap.size = gZ at oZ hleZ dYZ dZU dZV ⊢
            generalize v1.heap.size = gU at oU hleU dYU dZU dUV ⊢
            generalize v2.heap.size = gV at oV hleV dYV dZV dUV ⊢
            exact rest gY gZ gU gV v3 ⟨oY, oZ, oU, oV, dYZ, dYU, dYV, dZU, dZV, dUV, hleY, hleZ, hleU, hleV, hH⟩
          · intro KK hKK
            go_simp
            change KK _ (v1.alloc (Obj.cells (ic Is.zero) 23))
            have hleV : B ≤ v1.heap.size := by rw [hB]; exact hH.size
            refine hKK.out _ _ (hH.alloc hleV _) (fun hH => ?_)
            clear hKK KK
            try simp only [Act.put, List.setIfInBounds_toArray, List.set_cons_zero, List.set_cons_succ]
            have hlt2 := oZ.lt
            replace oY := oY.alloc (Obj.cells (ic Is.zero) 23)
            replace oZ := oZ.alloc (Obj.cells (ic Is.zero) 23)
            have oV := Own.new v1 Is.zero
            generalize v1.alloc (Obj.cells (ic Is.zero) 23) = v4 at *
            refine efs (rs := [6]) (by kernel_rfl) (by decide) ?_
            simp only [List.forall_mem_cons, List.not_mem_nil, false_implies, implies_true, and_true]
            refine ⟨_, rfl, by rfl, ?_⟩
            intro KK hKK
            go_simp
            change KK _ (v4.alloc (Obj.cells (ic Is.zero) 23))
            have hleU : B ≤ v4.heap.size := by rw [hB]; exact hH.size
            refine hKK.out _ _ (hH.alloc hleU _) (fun hH => ?_)
            clear hKK KK
            try simp only [Act.put, List.setIfInBounds_toArray, List.set_cons_zero, List.set_cons_succ]
            have hlt3 := oV.lt
            replace oY := oY.alloc (Obj.cells (ic Is.zero) 23)
            replace oZ := oZ.alloc (Obj.cells (ic Is.zero) 23)
            replace oV := oV.alloc (Obj.cells (ic Is.zero) 23)
            have oU := Own.new v4 Is.zero
            generalize v4.alloc (Obj.cells (ic Is.zero) 23) = v5 at *
            have dYZ : x0.heap.size ≠ v0.heap.size := by omega
            have dYU : x0.heap.size ≠ v4.heap.size := by omega
            have dYV : x0.heap.size ≠ v1.heap.size := by omega
            have dZU : v0.heap.size ≠ v4.heap.size := by omega
            have dZV : v0.heap.size ≠ v1.heap.size := by omega
            have dUV : v4.heap.size ≠ v1.heap.size := by omega
            clear hlt1 hlt2 hlt3
            generalize x0.heap.size = gY at oY hleY dYZ dYU dYV ⊢
            generalize v0.heap.size = gZ at oZ hleZ dYZ dZU dZV ⊢
            generalize v4.heap.size = gU at oU hleU dYU dZU dUV ⊢
            generalize v1.heap.size = gV at oV hleV dYV dZV dUV ⊢
            exact rest gY gZ gU gV v5 ⟨oY, oZ, oU, oV, dYZ, dYU, dYV, dZU, dZV, dUV, hleY, hleZ, hleU, hleV, hH⟩
        · intro KK hKK
          go_simp
          change KK _ (v0.alloc (Obj.cells (ic Is.zero) 23))
          have hleU : B ≤ v0.heap.size := by rw [hB]; exact hH.size
          refine hKK.out _ _ (hH.alloc hleU _) (fun hH => ?_)
          clear hKK KK
          try simp only [Act.put, List.setIfInBounds_toArray, List.set_cons_zero, List.set_cons_succ]
          have hlt1 := oY.lt
          replace oY := oY.alloc (Obj.cells (ic Is.zero) 23)
          have oU := Own.new v0 Is.zero
          generalize v0.alloc (Obj.cells (ic Is.zero) 23) = v6 at *
          refine efs (rs := [5, 7]) (by kernel_rfl) (by decide) ?_
          simp only [List.forall_mem_cons, List.not_mem_nil, false_implies, implies_true, and_true]
          refine ⟨⟨_, rfl, by rfl, ?_⟩, ⟨_, rfl, by rfl, ?_⟩⟩
          · intro KK hKK
            go_simp
            change KK _ (v6.alloc (Obj.cells (ic Is.zero) 23))
            have hleZ : B ≤ v6.heap.size := by rw [hB]; exact hH.size
            refine hKK.out _ _ (hH.alloc hleZ _) (fun hH => ?_)
            clear hKK KK
            try simp only [Act.put, List.setIfInBounds_toArray, List.set_cons_zero, List.set_cons_succ]
            have hlt2 := oU.lt
            replace oY := oY.alloc (Obj.cells (ic Is.zero) 23)
            replace oU := oU.alloc (Obj.cells (ic Is.zero) 23)
            have oZ := Own.new v6 Is.zero
            generalize v6.alloc (Obj.cells (ic Is.zero) 23) = v7 at *
            refine efs (rs := [7]) (by kernel_rfl) (by decide) ?_
            simp only [List.forall_mem_cons, List.not_mem_nil, false_implies, implies_true, and_true]
            refine ⟨_, rfl, by rfl, ?_⟩
            intro KK hKK
            go_simp
            change KK _ (v7.alloc (Obj.cells (ic Is.zero) 23))
            have hleV : B ≤ v7.heap.size := by rw [hB]; exact hH.size
            refine hKK.out _ _ (hH.alloc hleV _) (fun hH => ?_)
            clear hKK KK
            try simp only [Act.put, List.setIfInBounds_toArray, List.set_cons_zero, List.set_cons_succ]
            have hlt3 := oZ.lt
            replace oY := oY.alloc (Obj.cells (ic Is.zero) 23)
            replace oU := oU.alloc (Obj.cells (ic Is.zero) 23)
            replace oZ := oZ.alloc (Obj.cells (ic Is.zero) 23)
            have oV := Own.new v7 Is.zero
            generalize v7.alloc (Obj.cells (ic Is.zero) 23) = v8 at *
            have dYZ : x0.heap.size ≠ v6.heap.size := by omega
            have dYU : x0.heap.size ≠ v0.heap.size := by omega
            have dYV : x0.heap.size ≠ v7.heap.size := by omega
            have dZU : v6.heap.size ≠ v0.heap.size := by omega
            have dZV : v6.heap.size ≠ v7.heap.size := by omega
            have dUV : v0.heap.size ≠ v7.heap.size := by omega
            clear hlt1 hlt2 hlt3
            generalize x0.heap.size = gY at oY hleY dYZ dYU dYV ⊢
            generalize v6.heap.size = gZ at oZ hleZ dYZ dZU dZV ⊢
            generalize v0.heap.size = gU at oU hleU dYU dZU dUV ⊢
            generalize v7.heap.size = gV at oV hleV dYV dZV dUV ⊢
            exact rest gY gZ gU gV v8 ⟨oY, oZ, oU, oV, dYZ, dYU, dYV, dZU, dZV, dUV, hleY, hleZ, hleU, hleV, hH⟩
          · intro KK hKK
            go_simp
            change KK _ (v6.alloc (Obj.cells (ic Is.zero) 23))
            have hleV : B ≤ v6.heap.size := by rw [hB]; exact hH.size
            refine hKK.out _ _ (hH.alloc hleV _) (fun hH => ?_)
            clear hKK KK
            try simp only [Act.put, List.setIfInBounds_toArray, List.set_cons_zero, List.set_cons_succ]
            have hlt2 := oU.lt
            replace oY := oY.alloc (Obj.cells (ic Is.zero) 23)
            replace oU := oU.alloc (Obj.cells (ic Is.zero) 23)
            have oV := Own.new v6 Is.zero
            generalize v6.alloc (Obj.cells (ic Is.zero) 23) = v9 at *
            refine efs (rs := [5]) (by kernel_rfl) (by decide) ?_
            simp only [List.forall_mem_cons, List.not_mem_nil, false_implies, implies_true, and_true]
            refine ⟨_, rfl, by rfl, ?_⟩
            intro KK hKK
            go_simp
            change KK _ (v9.alloc (Obj.cells (ic Is.zero) 23))
            have hleZ : B ≤ v9.heap.size := by rw [hB]; exact hH.size
            refine hKK.out _ _ (hH.alloc hleZ _) (fun hH => ?_)
            clear hKK KK
            try simp only [Act.put, List.setIfInBounds_toArray, List.set_cons_zero, List.set_cons_succ]
            have hlt3 := oV.lt
            replace oY := oY.alloc (Obj.cells (ic Is.zero) 23)
            replace oU := oU.alloc (Obj.cells (ic Is.zero) 23)
            replace oV := oV.alloc (Obj.cells (ic Is.zero) 23)
            have oZ := Own.new v9 Is.zero
            generalize v9.alloc (Obj.cells (ic Is.zero) 23) = v10 at *
            have dYZ : x0.heap.size ≠ v9.heap.size := by omega
            have dYU : x0.heap.size ≠ v0.heap.size := by omega
            have dYV : x0.heap.size ≠ v6.heap.size := by omega
            have dZU : v9.heap.size ≠ v0.heap.size := by omega
            have dZV : v9.heap.size ≠ v6.heap.size := by omega
            have dUV : v0.heap.size ≠ v6.heap.size := by omega
            clear hlt1 hlt2 hlt3
            generalize x0.heap.size = gY at oY hleY dYZ dYU dYV ⊢
            generalize v9.heap.size = gZ at oZ hleZ dYZ dZU dZV ⊢
            generalize v0.heap.size = gU at oU hleU dYU dZU dUV ⊢
            generalize v6.heap.size = gV at oV hleV dYV dZV dUV ⊢
            exact rest gY gZ gU gV v10 ⟨oY, oZ, oU, oV, dYZ, dYU, dYV, dZU, dZV, dUV, hleY, hleZ, hleU, hleV, hH⟩
        · intro KK hKK
          go_simp
          change KK _ (v0.alloc (Obj.cells (ic Is.zero) 23))
          have hleV : B ≤ v0.heap.size := by rw [hB]; exact hH.size
          refine hKK.out _ _ (hH.alloc hleV _) (fun hH => ?_)
          clear hKK KK
          try simp only [Act.put, List.setIfInBounds_toArray, List.set_cons_zero, List.set_cons_succ]
          have hlt1 := oY.lt
          replace oY := oY.alloc (Obj.cells (ic Is.zero) 23)
          have oV := Own.new v0 Is.zero
          generalize v0.alloc (Obj.cells (ic Is.zero) 23) = v11 at *
          refine efs (rs := [5, 6]) (by kernel_rfl) (by decide) ?_
          simp only [List.forall_mem_cons, List.not_mem_nil, false_implies, implies_true, and_true]
          refine ⟨⟨_, rfl, by rfl, ?_⟩, ⟨_, rfl, by rfl, ?_⟩⟩
          · intro KK hKK
            go_simp
            change KK _ (v11.alloc (Obj.cells (ic Is.zero) 23))
            have hleZ : B ≤ v11.heap.size := by rw [hB]; exact hH.size
            refine hKK.out _ _ (hH.alloc hleZ _) (fun hH => ?_)
            clear hKK KK
            try simp only [Act.put, List.setIfInBounds_toArray, List.set_cons_zero, List.set_cons_succ]
            have hlt2 := oV.lt
            replace oY := oY.alloc (Obj.cells (ic Is.zero) 23)
            replace oV := oV.alloc (Obj.cells (ic Is.zero) 23)
            have oZ := Own.new v11 Is.zero
            generalize v11.alloc (Obj.cells (ic Is.zero) 23) = v12 at *
            refine efs (rs := [6]) (by kernel_rfl) (by decide) ?_
            simp only [List.forall_mem_cons, List.not_mem_nil, false_implies, implies_true, and_true]
            refine ⟨_, rfl, by rfl, ?_⟩
            intro KK hKK
            go_simp
            change KK _ (v12.alloc (Obj.cells (ic Is.zero) 23))
            have hleU : B ≤ v12.heap.size := by rw [hB]; exact hH.size
            refine hKK.out _ _ (hH.alloc hleU _) (fun hH => ?_)
            clear hKK KK
            try simp only [Act.put, List.setIfInBounds_toArray, List.set_cons_zero, List.set_cons_succ]
            have hlt3 := oZ.lt
            replace oY := oY.alloc (Obj.cells (ic Is.zero) 23)
            replace oV := oV.alloc (Obj.cells (ic Is.zero) 23)
            replace oZ := oZ.alloc (Obj.cells (ic Is.zero) 23)
            have oU := Own.new v12 Is.zero
            generalize v12.alloc (Obj.cells (ic Is.zero) 23) = v13 at *
            have dYZ : x0.heap.size ≠ v11.heap.size := by omega
            have dYU : x0.heap.size ≠ v12.heap.size := by omega
            have dYV : x0.heap.size ≠ v0.heap.size := by omega
            have dZU : v11.heap.size ≠ v12.heap.size := by omega
            have dZV : v11.heap.size ≠ v0.heap.size := by omega
            have dUV : v12.heap.size ≠ v0.heap.size := by omega
            clear hlt1 hlt2 hlt3
            generalize x0.heap.size = gY at oY hleY dYZ dYU dYV ⊢
            generalize v11.heap.size = gZ at oZ hleZ dYZ dZU dZV ⊢
            generalize v12.heap.size = gU at oU hleU dYU dZU dUV ⊢
            generalize v0.heap.size = gV at oV hleV dYV dZV dUV ⊢
            exact rest gY gZ gU gV v13 ⟨oY, oZ, oU, oV, dYZ, dYU, dYV, dZU, dZV, dUV, hleY, hleZ, hleU, hleV, hH⟩
          · intro KK hKK
            go_simp
            change KK _ (v11.alloc (Obj.cells (ic Is.zero) 23))
            have hleU : B ≤ v11.heap.size := by rw [hB]; exact hH.size
            refine hKK.out _ _ (hH.alloc hleU _) (fun hH => ?_)
            clear hKK KK
            try simp only [Act.put, List.setIfInBounds_toArray, List.set_cons_zero, List.set_cons_succ]
            have hlt2 := oV.lt
            replace oY := oY.alloc (Obj.cells (ic Is.zero) 23)
            replace oV := oV.alloc (Obj.cells (ic Is.zero) 23)
            have oU := Own.new v11 Is.zero
            generalize v11.alloc (Obj.cells (ic Is.zero) 23) = v14 at *
            refine efs (rs := [5]) (by kernel_rfl) (by decide) ?_
            simp only [List.forall_mem_cons, List.not_mem_nil, false_implies, implies_true, and_true]
            refine ⟨_, rfl, by rfl, ?_⟩
            intro KK hKK
            go_simp
            change KK _ (v14.alloc (Obj.cells (ic Is.zero) 23))
            have hleZ : B ≤ v14.heap.size := by rw [hB]; exact hH.size
            refine hKK.out _ _ (hH.alloc hleZ _) (fun hH => ?_)
            clear hKK KK
            try simp only [Act.put, List.setIfInBounds_toArray, List.set_cons_zero, List.set_cons_succ]
            have hlt3 := oU.lt
            replace oY := oY.alloc (Obj.cells (ic Is.zero) 23)
            replace oV := oV.alloc (Obj.cells (ic Is.zero) 23)
            replace oU := oU.alloc (Obj.cells (ic Is.zero) 23)
            have oZ := Own.new v14 Is.zero
            generalize v14.alloc (Obj.cells (ic Is.zero) 23) = v15 at *
            have dYZ : x0.heap.size ≠ v14.heap.size := by omega
            have dYU : x0.heap.size ≠ v11.heap.size := by omega
            have dYV : x0.heap.size ≠ v0.heap.size := by omega
            have dZU : v14.heap.size ≠ v11.heap.size := by omega
            have dZV : v14.heap.size ≠ v0.heap.size := by omega
            have dUV : v11.heap.size ≠ v0.heap.size := by omega
            clear hlt1 hlt2 hlt3
            generalize x0.heap.size = gY at oY hleY dYZ dYU dYV ⊢
            generalize v14.heap.size = gZ at oZ hleZ dYZ dZU dZV ⊢
            generalize v11.heap.size = gU at oU hleU dYU dZU dUV ⊢
            generalize v0.heap.size = gV at oV hleV dYV dZV dUV ⊢
            exact rest gY gZ gU gV v15 ⟨oY, oZ, oU, oV, dYZ, dYU, dYV, dZU, dZV, dUV, hleY, hleZ, hleU, hleV, hH⟩
      · intro KK hKK
        go_simp
        change KK _ (x0.alloc (Obj.cells (ic Is.zero) 23))
        have hleZ : B ≤ x0.heap.size := by rw [hB]; exact hH.size
        refine hKK.out _ _ (hH.alloc hleZ _) (fun hH => ?_)
        clear hKK KK
        try simp only [Act.put, List.setIfInBounds_toArray, List.set_cons_zero, List.set_cons_succ]
        have oZ := Own.new x0 Is.zero
        generalize x0.alloc (Obj.cells (ic Is.zero) 23) = v16 at *
        refine efs (rs := [4, 6, 7]) (by kernel_rfl) (by decide) ?_
        simp only [List.forall_mem_cons, List.not_mem_nil, false_implies, implies_true, and_true]
        refine ⟨⟨_, rfl, by rfl, ?_⟩, ⟨_, rfl, by rfl, ?_⟩, ⟨_, rfl, by rfl, ?_⟩⟩
        · intro KK hKK
          go_simp
          change KK _ (v16.alloc (Obj.cells (ic Is.zero) 23))
          have hleY : B ≤ v16.heap.size := by rw [hB]; exact hH.size
          refine hKK.out _ _ (hH.alloc hleY _) (fun hH => ?_)
          clear hKK KK
          try simp only [Act.put, List.setIfInBounds_toArray, List.set_cons_zero, List.set_cons_succ]
          have hlt1 := oZ.lt
          replace oZ := oZ.alloc (Obj.cells (ic Is.zero) 23)
          have oY := Own.new v16 Is.zero
          generalize v16.alloc (Obj.cells (ic Is.zero) 23) = v17 at *
          refine efs (rs := [6, 7]) (by kernel_rfl) (by decide) ?_
          simp only [List.forall_mem_cons, List.not_mem_nil, false_implies, implies_true, and_true]
          refine ⟨⟨_, rfl, by rfl, ?_⟩, ⟨_, rfl, by rfl, ?_⟩⟩
          · intro KK hKK
            go_simp
            change KK _ (v17.alloc (Obj.cells (ic Is.zero) 23))
            have hleU : B ≤ v17.heap.size := by rw [hB]; exact hH.size
            refine hKK.out _ _ (hH.alloc hleU _) (fun hH => ?_)
            clear hKK KK
            try simp only [Act.put, List.setIfInBounds_toArray, List.set_cons_zero, List.set_cons_succ]
            have hlt2 := oY.lt
            replace oZ := oZ.alloc (Obj.cells (ic Is.zero) 23)
            replace oY := oY.alloc (Obj.cells (ic Is.zero) 23)
            have oU := Own.new v17 Is.zero
            generalize v17.alloc (Obj.cells (ic Is.zero) 23) = v18 at *
            refine efs (rs := [7]) (by kernel_rfl) (by decide) ?_
            simp only [List.forall_mem_cons, List.not_mem_nil, false_implies, implies_true, and_true]
            refine ⟨_, rfl, by rfl, ?_⟩
            intro KK hKK
            go_simp
            change KK _ (v18.alloc (Obj.cells (ic Is.zero) 23))
            have hleV : B ≤ v18.heap.size := by rw [hB]; exact hH.size
            refine hKK.out _ _ (hH.alloc hleV _) (fun hH => ?_)
            clear hKK KK
            try simp only [Act.put, List.setIfInBounds_toArray, List.set_cons_zero, List.set_cons_succ]
            have hlt3 := oU.lt
            replace oZ := oZ.alloc (Obj.cells (ic Is.zero) 23)
            replace oY := oY.alloc (Obj.cells (ic Is.zero) 23)
            replace oU := oU.alloc (Obj.cells (ic Is.zero) 23)
            have oV := Own.new v18 Is.zero
            generalize v18.alloc (Obj.cells (ic Is.zero) 23) = v19 at *
            have dYZ : v16.heap.size ≠ x0.heap.size := by omega
            have dYU : v16.heap.size ≠ v17.heap.size := by omega
            have dYV : v16.heap.size ≠ v18.heap.size := by omega
            have dZU : x0.heap.size ≠ v17.heap.size := by omega
            have dZV : x0.heap.size ≠ v18.heap.size := by omega
            have dUV : v17.heap.size ≠ v18.heap.size := by omega
            clear hlt1 hlt2 hlt3
            generalize v16.heap.size = gY at oY hleY dYZ dYU dYV ⊢
            generalize x0.heap.size = gZ at oZ hleZ dYZ dZU dZV ⊢
            generalize v17.heap.size = gU at oU hleU dYU dZU dUV ⊢
            generalize v18.heap.size = gV at oV hleV dYV dZV dUV ⊢
            exact rest gY gZ gU gV v19 ⟨oY, oZ, oU, oV, dYZ, dYU, dYV, dZU, dZV, dUV, hleY, hleZ, hleU, hleV, hH⟩
          · intro KK hKK
            go_simp
            change KK _ (v17.alloc (Obj.cells (ic Is.zero) 23))
            have hleV : B ≤ v17.heap.size := by rw [hB]; exact hH.size
            refine hKK.out _ _ (hH.alloc hleV _) (fun hH => ?_)
            clear hKK KK
            try simp only [Act.put, List.setIfInBounds_toArray, List.set_cons_zero, List.set_cons_succ]
            have hlt2 := oY.lt
            replace oZ := oZ.alloc (Obj.cells (ic Is.zero) 23)
            replace oY := oY.alloc (Obj.cells (ic Is.zero) 23)
            have oV := Own.new v17 Is.zero
            generalize v17.alloc (Obj.cells (ic Is.zero) 23) = v20 at *
            refine efs (rs := [6]) (by kernel_rfl) (by decide) ?_
            simp only [List.forall_mem_cons, List.not_mem_nil, false_implies, implies_true, and_true]
            refine ⟨_, rfl, by rfl, ?_⟩
            intro KK hKK
            go_simp
            change KK _ (v20.alloc (Obj.cells (ic Is.zero) 23))
            have hleU : B ≤ v20.heap.size := by rw [hB]; exact hH.size
            refine hKK.out _ _ (hH.alloc hleU _) (fun hH => ?_)
            clear hKK KK
            try simp only [Act.put, List.setIfInBounds_toArray, List.set_cons_zero, List.set_cons_succ]
            have hlt3 := oV.lt
            replace oZ := oZ.alloc (Obj.cells (ic Is.zero) 23)
            replace oY := oY.alloc (Obj.cells (ic Is.zero) 23)
            replace oV := oV.alloc (Obj.cells (ic Is.zero) 23)
            have oU := Own.new v20 Is.zero
            generalize v20.alloc (Obj.cells (ic Is.zero) 23) = v21 at *
            have dYZ : v16.heap.size ≠ x0.heap.size := by omega
            have dYU : v16.heap.size ≠ v20.heap.size := by omega
            have dYV : v16.heap.size ≠ v17.heap.size := by omega
            have dZU : x0.heap.size ≠ v20.heap.size := by omega
            have dZV : x0.heap.size ≠ v17.heap.size := by omega
            have dUV : v20.heap.size ≠ v17.heap.size := by omega
            clear hlt1 hlt2 hlt3
            generalize v16.heap.size = gY at oY hleY dYZ dYU dYV ⊢
            generalize x0.heap.size = gZ at oZ hleZ dYZ dZU dZV ⊢
            generalize v20.heap.size = gU at oU hleU dYU dZU dUV ⊢
            generalize v17.heap.size = gV at oV hleV dYV dZV dUV ⊢
            exact rest gY gZ gU gV v21 ⟨oY, oZ, oU, oV, dYZ, dYU, dYV, dZU, dZV, dUV, hleY, hleZ, hleU, hleV, hH⟩
        · intro KK hKK
          go_simp
          change KK _ (v16.alloc (Obj.cells (ic Is.zero) 23))
          have hleU : B ≤ v16.heap.size := by rw [hB]; exact hH.size
          refine hKK.out _ _ (hH.alloc hleU _) (fun hH => ?_)
          clear hKK KK
          try simp only [Act.put, List.setIfInBounds_toArray, List.set_cons_zero, List.set_cons_succ]
          have hlt1 := oZ.lt
          replace oZ := oZ.alloc (Obj.cells (ic Is.zero) 23)
          have oU := Own.new v16 Is.zero
          generalize v16.alloc (Obj.cells (ic Is.zero) 23) = v22 at *
          refine efs (rs := [4, 7]) (by kernel_rfl) (by decide) ?_
          simp only [List.forall_mem_cons, List.not_mem_nil, false_implies, implies_true, and_true]
          refine ⟨⟨_, rfl, by rfl, ?_⟩, ⟨_, rfl, by rfl, ?_⟩⟩
          · intro KK hKK
            go_simp
            change KK _ (v22.alloc (Obj.cells (ic Is.zero) 23))
            have hleY : B ≤ v22.heap.size := by rw [hB]; exact hH.size
            refine hKK.out _ _ (hH.alloc hleY _) (fun hH => ?_)
            clear hKK KK
            try simp only [Act.put, List.setIfInBounds_toArray, List.set_cons_zero, List.set_cons_succ]
            have hlt2 := oU.lt
            replace oZ := oZ.alloc (Obj.cells (ic Is.zero) 23)
            replace oU := oU.alloc (Obj.cells (ic Is.zero) 23)
            have oY := Own.new v22 Is.zero
            generalize v22.alloc (Obj.cells (ic Is.zero) 23) = v23 at *
            refine efs (rs := [7]) (by kernel_rfl) (by decide) ?_
            simp only [List.forall_mem_cons, List.not_mem_nil, false_implies, implies_true, and_true]
            refine ⟨_, rfl, by rfl, ?_⟩
            intro KK hKK
            go_simp
            change KK _ (v23.alloc (Obj.cells (ic Is.zero) 23))
            have hleV : B ≤ v23.heap.size := by rw [hB]; exact hH.size
            refine hKK.out _ _ (hH.alloc hleV _) (fun hH => ?_)
            clear hKK KK
            try simp only [Act.put, List.setIfInBounds_toArray, List.set_cons_zero, List.set_cons_succ]
            have hlt3 := oY.lt
            replace oZ := oZ.alloc (Obj.cells (ic Is.zero) 23)
            replace oU := oU.alloc (Obj.cells (ic Is.zero) 23)
            replace oY := oY.alloc (Obj.cells (ic Is.zero) 23)
            have oV := Own.new v23 Is.zero
            generalize v23.alloc (Obj.cells (ic Is.zero) 23) = v24 at *
            have dYZ : v22.heap.size ≠ x0.heap.size := by omega
            have dYU : v22.heap.size ≠ v16.heap.size := by omega
            have dYV : v22.heap.size ≠ v23.heap.size := by omega
            have dZU : x0.heap.size ≠ v16.heap.size := by omega
            have dZV : x0.heap.size ≠ v23.heap.size := by omega
            have dUV : v16.heap.size ≠ v23.heap.size := by omega
            clear hlt1 hlt2 hlt3
            generalize v22.heap.size = gY at oY hleY dYZ dYU dYV ⊢
            generalize x0.heap.size = gZ at oZ hleZ dYZ dZU dZV ⊢
            generalize v16.heap.size = gU at oU hleU dYU dZU dUV ⊢
            generalize v23.heap.size = gV at oV hleV dYV dZV dUV ⊢
            exact rest gY gZ gU gV v24 ⟨oY, oZ, oU, oV, dYZ, dYU, dYV, dZU, dZV, dUV, hleY, hleZ, hleU, hleV, hH⟩
          · intro KK hKK
            go_simp
            change KK _ (v22.alloc (Obj.cells (ic Is.zero) 23))
            have hleV : B ≤ v22.heap.size := by rw [hB]; exact hH.size
            refine hKK.out _ _ (hH.alloc hleV _) (fun hH => ?_)
            clear hKK KK
            try simp only [Act.put, List.setIfInBounds_toArray, List.set_cons_zero, List.set_cons_succ]
            have hlt2 := oU.lt
            replace oZ := oZ.alloc (Obj.cells (ic Is.zero) 23)
            replace oU := oU.alloc (Obj.cells (ic Is.zero) 23)
            have oV := Own.new v22 Is.zero
            generalize v22.alloc (Obj.cells (ic Is.zero) 23) = v25 at *
            refine efs (rs := [4]) (by kernel_rfl) (by decide) ?_
            simp only [List.forall_mem_cons, List.not_mem_nil, false_implies, implies_true, and_true]
            refine ⟨_, rfl, by rfl, ?_⟩
            intro KK hKK
            go_simp
            change KK _ (v25.alloc (Obj.cells (ic Is.zero) 23))
            have hleY : B ≤ v25.heap.size := by rw [hB]; exact hH.size
            refine hKK.out _ _ (hH.alloc hleY _) (fun hH => ?_)
            clear hKK KK
            try simp only [Act.put, List.setIfInBounds_toArray, List.set_cons_zero, List.set_cons_succ]
            have hlt3 := oV.lt
            replace oZ := oZ.alloc (Obj.cells (ic Is.zero) 23)
            replace oU := oU.alloc (Obj.cells (ic Is.zero) 23)
            replace oV := oV.alloc (Obj.cells (ic Is.zero) 23)
            have oY := Own.new v25 Is.zero
            generalize v25.alloc (Obj.cells (ic Is.zero) 23) = v26 at *
            have dYZ : v25.heap.size ≠ x0.heap.size := by omega
            have dYU : v25.heap.size ≠ v16.heap.size := by omega
            have dYV : v25.heap.size ≠ v22.heap.size := by omega
            have dZU : x0.heap.size ≠ v16.heap.size := by omega
            have dZV : x0.heap.size ≠ v22.heap.size := by omega
            have dUV : v16.heap.size ≠ v22.heap.size := by omega
            clear hlt1 hlt2 hlt3
            generalize v25.heap.size = gY at oY hleY dYZ dYU dYV ⊢
            generalize x0.heap.size = gZ at oZ hleZ dYZ dZU dZV ⊢
            generalize v16.heap.size = gU at oU hleU dYU dZU dUV ⊢
            generalize v22.heap.size = gV at oV hleV dYV dZV dUV ⊢
            exact rest gY gZ gU gV v26 ⟨oY, oZ, oU, oV, dYZ, dYU, dYV, dZU, dZV, dUV, hleY, hleZ, hleU, hleV, hH⟩
        · intro KK hKK
          go_simp
          change KK _ (v16.alloc (Obj.cells (ic Is.zero) 23))
          have hleV : B ≤ v16.heap.size := by rw [hB]; exact hH.size
          refine hKK.out _ _ (hH.alloc hleV _) (fun hH => ?_)
          clear hKK KK
          try simp only [Act.put, List.setIfInBounds_toArray, List.set_cons_zero, List.set_cons_succ]
          have hlt1 := oZ.lt
          replace oZ := oZ.alloc (Obj.cells (ic Is.zero) 23)
          have oV := Own.new v16 Is.zero
          generalize v16.alloc (Obj.cells (ic Is.zero) 23) = v27 at *
          refine efs (rs := [4, 6]) (by kernel_rfl) (by decide) ?_
          simp only [List.forall_mem_cons, List.not_mem_nil, false_implies, implies_true, and_true]
          refine ⟨⟨_, rfl, by rfl, ?_⟩, ⟨_, rfl, by rfl, ?_⟩⟩
          · intro KK hKK
            go_simp
            change KK _ (v27.alloc (Obj.cells (ic Is.zero) 23))
            have hleY : B ≤ v27.heap.size := by rw [hB]; exact hH.size
            refine hKK.out _ _ (hH.alloc hleY _) (fun hH => ?_)
            clear hKK KK
            try simp only [Act.put, List.setIfInBounds_toArray, List.set_cons_zero, List.set_cons_succ]
            have hlt2 := oV.lt
            replace oZ := oZ.alloc (Obj.cells (ic Is.zero) 23)
            replace oV := oV.alloc (Obj.cells (ic Is.zero) 23)
            have oY := Own.new v27 Is.zero
            generalize v27.alloc (Obj.cells (ic Is.zero) 23) = v28 at *
            refine efs (rs := [6]) (by kernel_rfl) (by decide) ?_
            simp only [List.forall_mem_cons, List.not_mem_nil, false_implies, implies_true, and_true]
            refine ⟨_, rfl, by rfl, ?_⟩
            intro KK hKK
            go_simp
            change KK _ (v28.alloc (Obj.cells (ic Is.zero) 23))
            have hleU : B ≤ v28.heap.size := by rw [hB]; exact hH.size
            refine hKK.out _ _ (hH.alloc hleU _) (fun hH => ?_)
            clear hKK KK
            try simp only [Act.put, List.setIfInBounds_toArray, List.set_cons_zero, List.set_cons_succ]
            have hlt3 := oY.lt
            replace oZ := oZ.alloc (Obj.cells (ic Is.zero) 23)
            replace oV := oV.alloc (Obj.cells (ic Is.zero) 23)
            replace oY := oY.alloc (Obj.cells (ic Is.zero) 23)
            have oU := Own.new v28 Is.zero
            generalize v28.alloc (Obj.cells (ic Is.zero) 23) = v29 at *
            have dYZ : v27.heap.size ≠ x0.heap.size := by omega
            have dYU : v27.heap.size ≠ v28.heap.size := by omega
            have dYV : v27.heap.size ≠ v16.heap.size := by omega
            have dZU : x0.heap.size ≠ v28.heap.size := by omega
            have dZV : x0.heap.size ≠ v16.heap.size := by omega
            have dUV : v28.heap.size ≠ v16.heap.size := by omega
            clear hlt1 hlt2 hlt3
            generalize v27.heap.size = gY at oY hleY dYZ dYU dYV ⊢
            generalize x0.heap.size = gZ at oZ hleZ dYZ dZU dZV ⊢
            generalize v28.heap.size = gU at oU hleU dYU dZU dUV ⊢
            generalize v16.heap.size = gV at oV hleV dYV dZV dUV ⊢
            exact rest gY gZ gU gV v29 ⟨oY, oZ, oU, oV, dYZ, dYU, dYV, dZU, dZV, dUV, hleY, hleZ, hleU, hleV, hH⟩
          · intro KK hKK
            go_simp
            change KK _ (v27.alloc (Obj.cells (ic Is.zero) 23))
            have hleU : B ≤ v27.heap.size := by rw [hB]; exact hH.size
            refine hKK.out _ _ (hH.alloc hleU _) (fun hH => ?_)
            clear hKK KK
            try simp only [Act.put, List.setIfInBounds_toArray, List.set_cons_zero, List.set_cons_succ]
            have hlt2 := oV.lt
            replace oZ := oZ.alloc (Obj.cells (ic Is.zero) 23)
            replace oV := oV.alloc (Obj.cells (ic Is.zero) 23)
            have oU := Own.new v27 Is.zero
            generalize v27.alloc (Obj.cells (ic Is.zero) 23) = v30 at *
            refine efs (rs := [4]) (by kernel_rfl) (by decide) ?_
            simp only [List.forall_mem_cons, List.not_mem_nil, false_implies, implies_true, and_true]
            refine ⟨_, rfl, by rfl, ?_⟩
            intro KK hKK
            go_simp
            change KK _ (v30.alloc (Obj.cells (ic Is.zero) 23))
            have hleY : B ≤ v30.heap.size := by rw [hB]; exact hH.size
            refine hKK.out _ _ (hH.alloc hleY _) (fun hH => ?_)
            clear hKK KK
            try simp only [Act.put, List.setIfInBounds_toArray, List.set_cons_zero, List.set_cons_succ]
            have hlt3 := oU.lt
            replace oZ := oZ.alloc (Obj.cells (ic Is.zero) 23)
            replace oV := oV.alloc (Obj.cells (ic Is.zero) 23)
            replace oU := oU.alloc (Obj.cells (ic Is.zero) 23)
            have oY := Own.new v30 Is.zero
            generalize v30.alloc (Obj.cells (ic Is.zero) 23) = v31 at *
            have dYZ : v30.heap.size ≠ x0.heap.size := by omega
            have dYU : v30.heap.size ≠ v27.heap.size := by omega
            have dYV : v30.heap.size ≠ v16.heap.size := by omega
            have dZU : x0.heap.size ≠ v27.heap.size := by omega
            have dZV : x0.heap.size ≠ v16.heap.size := by omega
            have dUV : v27.heap.size ≠ v16.heap.size := by omega
            clear hlt1 hlt2 hlt3
            generalize v30.heap.size = gY at oY hleY dYZ dYU dYV ⊢
            generalize x0.heap.size = gZ at oZ hleZ dYZ dZU dZV ⊢
            generalize v27.heap.size = gU at oU hleU dYU dZU dUV ⊢
            generalize v16.heap.size = gV at oV hleV dYV dZV dUV ⊢
            exact rest gY gZ gU gV v31 ⟨oY, oZ, oU, oV, dYZ, dYU, dYV, dZU, dZV, dUV, hleY, hleZ, hleU, hleV, hH⟩
      · intro KK hKK
        go_simp
        change KK _ (x0.alloc (Obj.cells (ic Is.zero) 23))
        have hleU : B ≤ x0.heap.size := by rw [hB]; exact hH.size
        refine hKK.out _ _ (hH.alloc hleU _) (fun hH => ?_)
        clear hKK KK
        try simp only [Act.put, List.setIfInBounds_toArray, List.set_cons_zero, List.set_cons_succ]
        have oU := Own.new x0 Is.zero
        generalize x0.alloc (Obj.cells (ic Is.zero) 23) = v32 at *
        refine efs (rs := [4, 5, 7]) (by kernel_rfl) (by decide) ?_
        simp only [List.forall_mem_cons, List.not_mem_nil, false_implies, implies_true, and_true]
        refine ⟨⟨_, rfl, by rfl, ?_⟩, ⟨_, rfl, by rfl, ?_⟩, ⟨_, rfl, by rfl, ?_⟩⟩
        · intro KK hKK
          go_simp
          change KK _ (v32.alloc (Obj.cells (ic Is.zero) 23))
          have hleY : B ≤ v32.heap.size := by rw [hB]; exact hH.size
          refine hKK.out _ _ (hH.alloc hleY _) (fun hH => ?_)
          clear hKK KK
          try simp only [Act.put, List.setIfInBounds_toArray, List.set_cons_zero, List.set_cons_succ]
          have hlt1 := oU.lt
          replace oU := oU.alloc (Obj.cells (ic Is.zero) 23)
          have oY := Own.new v32 Is.zero
          generalize v32.alloc (Obj.cells (ic Is.zero) 23) = v33 at *
          refine efs (rs := [5, 7]) (by kernel_rfl) (by decide) ?_
          simp only [List.forall_mem_cons, List.not_mem_nil, false_implies, implies_true, and_true]
          refine ⟨⟨_, rfl, by rfl, ?_⟩, ⟨_, rfl, by rfl, ?_⟩⟩
          · intro KK hKK
            go_simp
            change KK _ (v33.alloc (Obj.cells (ic Is.zero) 23))
            have hleZ : B ≤ v33.heap.size := by rw [hB]; exact hH.size
            refine hKK.out _ _ (hH.alloc hleZ _) (fun hH => ?_)
            clear hKK KK
            try simp only [Act.put, List.setIfInBounds_toArray, List.set_cons_zero, List.set_cons_succ]
            have hlt2 := oY.lt
            replace oU := oU.alloc (Obj.cells (ic Is.zero) 23)
            replace oY := oY.alloc (Obj.cells (ic Is.zero) 23)
            have oZ := Own.new v33 Is.zero
            generalize v33.alloc (Obj.cells (ic Is.zero) 23) = v34 at *
            refine efs (rs := [7]) (by kernel_rfl) (by decide) ?_
            simp only [List.forall_mem_cons, List.not_mem_nil, false_implies, implies_true, and_true]
            refine ⟨_, rfl, by rfl, ?_⟩
            intro KK hKK
            go_simp
            change KK _ (v34.alloc (Obj.cells (ic Is.zero) 23))
            have hleV : B ≤ v34.heap.size := by rw [hB]; exact hH.size
            refine hKK.out _ _ (hH.alloc hleV _) (fun hH => ?_)
            clear hKK KK
            try simp only [Act.put, List.setIfInBounds_toArray, List.set_cons_zero, List.set_cons_succ]
            have hlt3 := oZ.lt
            replace oU := oU.alloc (Obj.cells (ic Is.zero) 23)
            replace oY := oY.alloc (Obj.cells (ic Is.zero) 23)
            replace oZ := oZ.alloc (Obj.cells (ic Is.zero) 23)
            have oV := Own.new v34 Is.zero
            generalize v34.alloc (Obj.cells (ic Is.zero) 23) = v35 at *
            have dYZ : v32.heap.size ≠ v33.heap.size := by omega
            have dYU : v32.heap.size ≠ x0.heap.size := by omega
            have dYV : v32.heap.size ≠ v34.heap.size := by omega
            have dZU : v33.heap.size ≠ x0.heap.size := by omega
            have dZV : v33.heap.size ≠ v34.heap.size := by omega
            have dUV : x0.heap.size ≠ v34.heap.size := by omega
            clear hlt1 hlt2 hlt3
            generalize v32.heap.size = gY at oY hleY dYZ dYU dYV ⊢
            generalize v33.heap.size = gZ at oZ hleZ dYZ dZU dZV ⊢
            generalize x0.heap.size = gU at oU hleU dYU dZU dUV ⊢
            generalize v34.heap.size = gV at oV hleV dYV dZV dUV ⊢
            exact rest gY gZ gU gV v35 ⟨oY, oZ, oU, oV, dYZ, dYU, dYV, dZU, dZV, dUV, hleY, hleZ, hleU, hleV, hH⟩
          · intro KK hKK
            go_simp
            change KK _ (v33.alloc (Obj.cells (ic Is.zero) 23))
            have hleV : B ≤ v33.heap.size := by rw [hB]; exact hH.size
            refine hKK.out _ _ (hH.alloc hleV _) (fun hH => ?_)
            clear hKK KK
            try simp only [Act.put, List.setIfInBounds_toArray, List.set_cons_zero, List.set_cons_succ]
            have hlt2 := oY.lt
            replace oU := oU.alloc (Obj.cells (ic Is.zero) 23)
            replace oY := oY.alloc (Obj.cells (ic Is.zero) 23)
            have oV := Own.new v33 Is.zero
            generalize v33.alloc (Obj.cells (ic Is.zero) 23) = v36 at *
            refine efs (rs := [5]) (by kernel_rfl) (by decide) ?_
            simp only [List.forall_mem_cons, List.not_mem_nil, false_implies, implies_true, and_true]
            refine ⟨_, rfl, by rfl, ?_⟩
            intro KK hKK
            go_simp
            change KK _ (v36.alloc (Obj.cells (ic Is.zero) 23))
            have hleZ : B ≤ v36.heap.size := by rw [hB]; exact hH.size
            refine hKK.out _ _ (hH.alloc hleZ _) (fun hH => ?_)
            clear hKK KK
            try simp only [Act.put, List.setIfInBounds_toArray, List.set_cons_zero, List.set_cons_succ]
            have hlt3 := oV.lt
            replace oU := oU.alloc (Obj.cells (ic Is.zero) 23)
            replace oY := oY.alloc (Obj.cells (ic Is.zero) 23)
            replace oV := oV.alloc (Obj.cells (ic Is.zero) 23)
            have oZ := Own.new v36 Is.zero
            generalize v36.alloc (Obj.cells (ic Is.zero) 23) = v37 at *
            have dYZ : v32.heap.size ≠ v36.heap.size := by omega
            have dYU : v32.heap.size ≠ x0.heap.size := by omega
            have dYV : v32.heap.size ≠ v33.heap.size := by omega
            have dZU : v36.heap.size ≠ x0.heap.size := by omega
            have dZV : v36.heap.size ≠ v33.heap.size := by omega
            have dUV : x0.heap.size ≠ v33.heap.size := by omega
            clear hlt1 hlt2 hlt3
            generalize v32.heap.size = gY at oY hleY dYZ dYU dYV ⊢
            generalize v36.heap.size = gZ at oZ hleZ dYZ dZU dZV ⊢
            generalize x0.heap.size = gU at oU hleU dYU dZU dUV ⊢
            generalize v33.heap.size = gV at oV hleV dYV dZV dUV ⊢
            exact rest gY gZ gU gV v37 ⟨oY, oZ, oU, oV, dYZ, dYU, dYV, dZU, dZV, dUV, hleY, hleZ, hleU, hleV, hH⟩
        · intro KK hKK
          go_simp
          change KK _ (v32.alloc (Obj.cells (ic Is.zero) 23))
          have hleZ : B ≤ v32.heap.size := by rw [hB]; exact hH.size
          refine hKK.out _ _ (hH.alloc hleZ _) (fun hH => ?_)
          clear hKK KK
          try simp only [Act.put, List.setIfInBounds_toArray, List.set_cons_zero, List.set_cons_succ]
          have hlt1 := oU.lt
          replace oU := oU.alloc (Obj.cells (ic Is.zero) 23)
          have oZ := Own.new v32 Is.zero
          generalize v32.alloc (Obj.cells (ic Is.zero) 23) = v38 at *
          refine efs (rs := [4, 7]) (by kernel_rfl) (by decide) ?_
          simp only [List.forall_mem_cons, List.not_mem_nil, false_implies, implies_true, and_true]
          refine ⟨⟨_, rfl, by rfl, ?_⟩, ⟨_, rfl, by rfl, ?_⟩⟩
          · intro KK hKK
            go_simp
            change KK _ (v38.alloc (Obj.cells (ic Is.zero) 23))
            have hleY : B ≤ v38.heap.size := by rw [hB]; exact hH.size
            refine hKK.out _ _ (hH.alloc hleY _) (fun hH => ?_)
            clear hKK KK
            try simp only [Act.put, List.setIfInBounds_toArray, List.set_cons_zero, List.set_cons_succ]
            have hlt2 := oZ.lt
            replace oU := oU.alloc (Obj.cells (ic Is.zero) 23)
            replace oZ := oZ.alloc (Obj.cells (ic Is.zero) 23)
            have oY := Own.new v38 Is.zero
            generalize v38.alloc (Obj.cells (ic Is.zero) 23) = v39 at *
            refine efs (rs := [7]) (by kernel_rfl) (by decide) ?_
            simp only [List.forall_mem_cons, List.not_mem_nil, false_implies, implies_true, and_true]
            refine ⟨_, rfl, by rfl, ?_⟩
            intro KK hKK
            go_simp
            change KK _ (v39.alloc (Obj.cells (ic Is.zero) 23))
            have hleV : B ≤ v39.heap.size := by rw [hB]; exact hH.size
            refine hKK.out _ _ (hH.alloc hleV _) (fun hH => ?_)
            clear hKK KK
            try simp only [Act.put, List.setIfInBounds_toArray, List.set_cons_zero, List.set_cons_succ]
            have hlt3 := oY.lt
            replace oU := oU.alloc (Obj.cells (ic Is.zero) 23)
            replace oZ := oZ.alloc (Obj.cells (ic Is.zero) 23)
            replace oY := oY.alloc (Obj.cells (ic Is.zero) 23)
            have oV := Own.new v39 Is.zero
            generalize v39.alloc (Obj.cells (ic Is.zero) 23) = v40 at *
            have dYZ : v38.heap.size ≠ v32.heap.size := by omega
            have dYU : v38.heap.size ≠ x0.heap.size := by omega
            have dYV : v38.heap.size ≠ v39.heap.size := by omega
            have dZU : v32.heap.size ≠ x0.heap.size := by omega
            have dZV : v32.heap.size ≠ v39.heap.size := by omega
            have dUV : x0.heap.size ≠ v39.heap.size := by omega
            clear hlt1 hlt2 hlt3
            generalize v38.heap.size = gY at oY hleY dYZ dYU dYV ⊢
            generalize v32.heap.size = gZ at oZ hleZ dYZ dZU dZV ⊢
            generalize x0.heap.size = gU at oU hleU dYU dZU dUV ⊢
            generalize v39.heap.size = gV at oV hleV dYV dZV dUV ⊢
            exact rest gY gZ gU gV v40 ⟨oY, oZ, oU, oV, dYZ, dYU, dYV, dZU, dZV, dUV, hleY, hleZ, hleU, hleV, hH⟩
          · intro KK hKK
            go_simp
            change KK _ (v38.alloc (Obj.cells (ic Is.zero) 23))
            have hleV : B ≤ v38.heap.size := by rw [hB]; exact hH.size
            refine hKK.out _ _ (hH.alloc hleV _) (fun hH => ?_)
            clear hKK KK
            try simp only [Act.put, List.setIfInBounds_toArray, List.set_cons_zero, List.set_cons_succ]
            have hlt2 := oZ.lt
            replace oU := oU.alloc (Obj.cells (ic Is.zero) 23)
            replace oZ := oZ.alloc (Obj.cells (ic Is.zero) 23)
            have oV := Own.new v38 Is.zero
            generalize v38.alloc (Obj.cells (ic Is.zero) 23) = v41 at *
            refine efs (rs := [4]) (by kernel_rfl) (by decide) ?_
            simp only [List.forall_mem_cons, List.not_mem_nil, false_implies, implies_true, and_true]
            refine ⟨_, rfl, by rfl, ?_⟩
            intro KK hKK
            go_simp
            change KK _ (v41.alloc (Obj.cells (ic Is.zero) 23))
            have hleY : B ≤ v41.heap.size := by rw [hB]; exact hH.size
            refine hKK.out _ _ (hH.alloc hleY _) (fun hH => ?_)
            clear hKK KK
            try simp only [Act.put, List.setIfInBounds_toArray, List.set_cons_zero, List.set_cons_succ]
            have hlt3 := oV.lt
            replace oU := oU.alloc (Obj.cells (ic Is.zero) 23)
            replace oZ := oZ.alloc (Obj.cells (ic Is.zero) 23)
            replace oV := oV.alloc (Obj.cells (ic Is.zero) 23)
            have oY := Own.new v41 Is.zero
            generalize v41.alloc (Obj.cells (ic Is.zero) 23) = v42 at *
            have dYZ : v41.heap.size ≠ v32.heap.size := by omega
            have dYU : v41.heap.size ≠ x0.heap.size := by omega
            have dYV : v41.heap.size ≠ v38.heap.size := by omega
            have dZU : v32.heap.size ≠ x0.heap.size := by omega
            have dZV : v32.heap.size ≠ v38.heap.size := by omega
            have dUV : x0.heap.size ≠ v38.heap.size := by omega
            clear hlt1 hlt2 hlt3
            generalize v41.heap.size = gY at oY hleY dYZ dYU dYV ⊢
            generalize v32.heap.size = gZ at oZ hleZ dYZ dZU dZV ⊢
            generalize x0.heap.size = gU at oU hleU dYU dZU dUV ⊢
            generalize v38.heap.size = gV at oV hleV dYV dZV dUV ⊢
            exact rest gY gZ gU gV v42 ⟨oY, oZ, oU, oV, dYZ, dYU, dYV, dZU, dZV, dUV, hleY, hleZ, hleU, hleV, hH⟩
        · intro KK hKK
          go_simp
          change KK _ (v32.alloc (Obj.cells (ic Is.zero) 23))
          have hleV : B ≤ v32.heap.size := by rw [hB]; exact hH.size
          refine hKK.out _ _ (hH.alloc hleV _) (fun hH => ?_)
          clear hKK KK
          try simp only [Act.put, List.setIfInBounds_toArray, List.set_cons_zero, List.set_cons_succ]
          have hlt1 := oU.lt
          replace oU := oU.alloc (Obj.cells (ic Is.zero) 23)
          have oV := Own.new v32 Is.zero
          generalize v32.alloc (Obj.cells (ic Is.zero) 23) = v43 at *
          refine efs (rs := [4, 5]) (by kernel_rfl) (by decide) ?_
          simp only [List.forall_mem_cons, List.not_mem_nil, false_implies, implies_true, and_true]
          refine ⟨⟨_, rfl, by rfl, ?_⟩, ⟨_, rfl, by rfl, ?_⟩⟩
          · intro KK hKK
            go_simp
            change KK _ (v43.alloc (Obj.cells (ic Is.zero) 23))
            have hleY : B ≤ v43.heap.size := by rw [hB]; exact hH.size
            refine hKK.out _ _ (hH.alloc hleY _) (fun hH => ?_)
            clear hKK KK
            try simp only [Act.put, List.setIfInBounds_toArray, List.set_cons_zero, List.set_cons_succ]
            have hlt2 := oV.lt
            replace oU := oU.alloc (Obj.cells (ic Is.zero) 23)
            replace oV := oV.alloc (Obj.cells (ic Is.zero) 23)
            have oY := Own.new v43 Is.zero
            generalize v43.alloc (Obj.cells (ic Is.zero) 23) = v44 at *
            refine efs (rs := [5]) (by kernel_rfl) (by decide) ?_
            simp only [List.forall_mem_cons, List.not_mem_nil, false_implies, implies_true, and_true]
            refine ⟨_, rfl, by rfl, ?_⟩
            intro KK hKK
            go_simp
            change KK _ (v44.alloc (Obj.cells (ic Is.zero) 23))
            have hleZ : B ≤ v44.heap.size := by rw [hB]; exact hH.size
            refine hKK.out _ _ (hH.alloc hleZ _) (fun hH => ?_)
            clear hKK KK
            try simp only [Act.put, List.setIfInBounds_toArray, List.set_cons_zero, List.set_cons_succ]
            have hlt3 := oY.lt
            replace oU := oU.alloc (Obj.cells (ic Is.zero) 23)
            replace oV := oV.alloc (Obj.cells (ic Is.zero) 23)
            replace oY := oY.alloc (Obj.cells (ic Is.zero) 23)
            have oZ := Own.new v44 Is.zero
            generalize v44.alloc (Obj.cells (ic Is.zero) 23) = v45 at *
            have dYZ : v43.heap.size ≠ v44.heap.size := by omega
            have dYU : v43.heap.size ≠ x0.heap.size := by omega
            have dYV : v43.heap.size ≠ v32.heap.size := by omega
            have dZU : v44.heap.size ≠ x0.heap.size := by omega
            have dZV : v44.heap.size ≠ v32.heap.size := by omega
            have dUV : x0.heap.size ≠ v32.heap.size := by omega
            clear hlt1 hlt2 hlt3
            generalize v43.heap.size = gY at oY hleY dYZ dYU dYV ⊢
            generalize v44.heap.size = gZ at oZ hleZ dYZ dZU dZV ⊢
            generalize x0.heap.size = gU at oU hleU dYU dZU dUV ⊢
            generalize v32.heap.size = gV at oV hleV dYV dZV dUV ⊢
            exact rest gY gZ gU gV v45 ⟨oY, oZ, oU, oV, dYZ, dYU, dYV, dZU, dZV, dUV, hleY, hleZ, hleU, hleV, hH⟩
          · intro KK hKK
            go_simp
            change KK _ (v43.alloc (Obj.cells (ic Is.zero) 23))
            have hleZ : B ≤ v43.heap.size := by rw [hB]; exact hH.size
            refine hKK.out _ _ (hH.alloc hleZ _) (fun hH => ?_)
            clear hKK KK
            try simp only [Act.put, List.setIfInBounds_toArray, List.set_cons_zero, List.set_cons_succ]
            have hlt2 := oV.lt
            replace oU := oU.alloc (Obj.cells (ic Is.zero) 23)
            replace oV := oV.alloc (Obj.cells (ic Is.zero) 23)
            have oZ := Own.new v43 Is.zero
            generalize v43.alloc (Obj.cells (ic Is.zero) 23) = v46 at *
            refine efs (rs := [4]) (by kernel_rfl) (by decide) ?_
            simp only [List.forall_mem_cons, List.not_mem_nil, false_implies, implies_true, and_true]
            refine ⟨_, rfl, by rfl, ?_⟩
            intro KK hKK
            go_simp
            change KK _ (v46.alloc (Obj.cells (ic Is.zero) 23))
            have hleY : B ≤ v46.heap.size := by rw [hB]; exact hH.size
            refine hKK.out _ _ (hH.alloc hleY _) (fun hH => ?_)
            clear hKK KK
            try simp only [Act.put, List.setIfInBounds_toArray, List.set_cons_zero, List.set_cons_succ]
            have hlt3 := oZ.lt
            replace oU := oU.alloc (Obj.cells (ic Is.zero) 23)
            replace oV := oV.alloc (Obj.cells (ic Is.zero) 23)
            replace oZ := oZ.alloc (Obj.cells (ic Is.zero) 23)
            have oY := Own.new v46 Is.zero
            generalize v46.alloc (Obj.cells (ic Is.zero) 23) = v47 at *
            have dYZ : v46.heap.size ≠ v43.heap.size := by omega
            have dYU : v46.heap.size ≠ x0.heap.size := by omega
            have dYV : v46.heap.size ≠ v32.heap.size := by omega
            have dZU : v43.heap.size ≠ x0.heap.size := by omega
            have dZV : v43.heap.size ≠ v32.heap.size := by omega
            have dUV : x0.heap.size ≠ v32.heap.size := by omega
            clear hlt1 hlt2 hlt3
            generalize v46.heap.size = gY at oY hleY dYZ dYU dYV ⊢
            generalize v43.heap.size = gZ at oZ hleZ dYZ dZU dZV ⊢
            generalize x0.heap.size = gU at oU hleU dYU dZU dUV ⊢
            generalize v32.heap.size = gV at oV hleV dYV dZV dUV ⊢
            exact rest gY gZ gU gV v47 ⟨oY, oZ, oU, oV, dYZ, dYU, dYV, dZU, dZV, dUV, hleY, hleZ, hleU, hleV, hH⟩
      · intro KK hKK
        go_simp
        change KK _ (x0.alloc (Obj.cells (ic Is.zero) 23))
        have hleV : B ≤ x0.heap.size := by rw [hB]; exact hH.size
        refine hKK.out _ _ (hH.alloc hleV _) (fun hH => ?_)
        clear hKK KK
        try simp only [Act.put, List.setIfInBounds_toArray, List.set_cons_zero, List.set_cons_succ]
        have oV := Own.new x0 Is.zero
        generalize x0.alloc (Obj.cells (ic Is.zero) 23) = v48 at *
        refine efs (rs := [4, 5, 6]) (by kernel_rfl) (by decide) ?_
        simp only [List.forall_mem_cons, List.not_mem_nil, false_implies, implies_true, and_true]
        refine ⟨⟨_, rfl, by rfl, ?_⟩, ⟨_, rfl, by rfl, ?_⟩, ⟨_, rfl, by rfl, ?_⟩⟩
        · intro KK hKK
          go_simp
          change KK _ (v48.alloc (Obj.cells (ic Is.zero) 23))
          have hleY : B ≤ v48.heap.size := by rw [hB]; exact hH.size
          refine hKK.out _ _ (hH.alloc hleY _) (fun hH => ?_)
          clear hKK KK
          try simp only [Act.put, List.setIfInBounds_toArray, List.set_cons_zero, List.set_cons_succ]
          have hlt1 := oV.lt
          replace oV := oV.alloc (Obj.cells (ic Is.zero) 23)
          have oY := Own.new v48 Is.zero
          generalize v48.alloc (Obj.cells (ic Is.zero) 23) = v49 at *
          refine efs (rs := [5, 6]) (by kernel_rfl) (by decide) ?_
          simp only [List.forall_mem_cons, List.not_mem_nil, false_implies, implies_true, and_true]
          refine ⟨⟨_, rfl, by rfl, ?_⟩, ⟨_, rfl, by rfl, ?_⟩⟩
          · intro KK hKK
            go_simp
            change KK _ (v49.alloc (Obj.cells (ic Is.zero) 23))
            have hleZ : B ≤ v49.heap.size := by rw [hB]; exact hH.size
            refine hKK.out _ _ (hH.alloc hleZ _) (fun hH => ?_)
            clear hKK KK
            try simp only [Act.put, List.setIfInBounds_toArray, List.set_cons_zero, List.set_cons_succ]
            have hlt2 := oY.lt
            replace oV := oV.alloc (Obj.cells (ic Is.zero) 23)
            replace oY := oY.alloc (Obj.cells (ic Is.zero) 23)
            have oZ := Own.new v49 Is.zero
            generalize v49.alloc (Obj.cells (ic Is.zero) 23) = v50 at *
            refine efs (rs := [6]) (by kernel_rfl) (by decide) ?_
            simp only [List.forall_mem_cons, List.not_mem_nil, false_implies, implies_true, and_true]
            refine ⟨_, rfl, by rfl, ?_⟩
            intro KK hKK
            go_simp
            change KK _ (v50.alloc (Obj.cells (ic Is.zero) 23))
            have hleU : B ≤ v50.heap.size := by rw [hB]; exact hH.size
            refine hKK.out _ _ (hH.alloc hleU _) (fun hH => ?_)
            clear hKK KK
            try simp only [Act.put, List.setIfInBounds_toArray, List.set_cons_zero, List.set_cons_succ]
            have hlt3 := oZ.lt
            replace oV := oV.alloc (Obj.cells (ic Is.zero) 23)
            replace oY := oY.alloc (Obj.cells (ic Is.zero) 23)
            replace oZ := oZ.alloc (Obj.cells (ic Is.zero) 23)
            have oU := Own.new v50 Is.zero
            generalize v50.alloc (Obj.cells (ic Is.zero) 23) = v51 at *
            have dYZ : v48.heap.size ≠ v49.heap.size := by omega
            have dYU : v48.heap.size ≠ v50.heap.size := by omega
            have dYV : v48.heap.size ≠ x0.heap.size := by omega
            have dZU : v49.heap.size ≠ v50.heap.size := by omega
            have dZV : v49.heap.size ≠ x0.heap.size := by omega
            have dUV : v50.heap.size ≠ x0.heap.size := by omega
            clear hlt1 hlt2 hlt3
            generalize v48.heap.size = gY at oY hleY dYZ dYU dYV ⊢
            generalize v49.heap.size = gZ at oZ hleZ dYZ dZU dZV ⊢
            generalize v50.heap.size = gU at oU hleU dYU dZU dUV ⊢
            generalize x0.heap.size = gV at oV hleV dYV dZV dUV ⊢
            exact rest gY gZ gU gV v51 ⟨oY, oZ, oU, oV, dYZ, dYU, dYV, dZU, dZV, dUV, hleY, hleZ, hleU, hleV, hH⟩
          · intro KK hKK
            go_simp
            change KK _ (v49.alloc (Obj.cells (ic Is.zero) 23))
            have hleU : B ≤ v49.heap.size := by rw [hB]; exact hH.size
            refine hKK.out _ _ (hH.alloc hleU _) (fun hH => ?_)
            clear hKK KK
            try simp only [Act.put, List.setIfInBounds_toArray, List.set_cons_zero, List.set_cons_succ]
            have hlt2 := oY.lt
            replace oV := oV.alloc (Obj.cells (ic Is.zero) 23)
            replace oY := oY.alloc (Obj.cells (ic Is.zero) 23)
            have oU := Own.new v49 Is.zero
            generalize v49.alloc (Obj.cells (ic Is.zero) 23) = v52 at *
            refine efs (rs := [5]) (by kernel_rfl) (by decide) ?_
            simp only [List.forall_mem_cons, List.not_mem_nil, false_implies, implies_true, and_true]
            refine ⟨_, rfl, by rfl, ?_⟩
            intro KK hKK
            go_simp
            change KK _ (v52.alloc (Obj.cells (ic Is.zero) 23))
            have hleZ : B ≤ v52.heap.size := by rw [hB]; exact hH.size
            refine hKK.out _ _ (hH.alloc hleZ _) (fun hH => ?_)
            clear hKK KK
            try simp only [Act.put, List.setIfInBounds_toArray, List.set_cons_zero, List.set_cons_succ]
            have hlt3 := oU.lt
            replace oV := oV.alloc (Obj.cells (ic Is.zero) 23)
            replace oY := oY.alloc (Obj.cells (ic Is.zero) 23)
            replace oU := oU.alloc (Obj.cells (ic Is.zero) 23)
            have oZ := Own.new v52 Is.zero
            generalize v52.alloc (Obj.cells (ic Is.zero) 23) = v53 at *
            have dYZ : v48.heap.size ≠ v52.heap.size := by omega
            have dYU : v48.heap.size ≠ v49.heap.size := by omega
            have dYV : v48.heap.size ≠ x0.heap.size := by omega
            have dZU : v52.heap.size ≠ v49.heap.size := by omega
            have dZV : v52.heap.size ≠ x0.heap.size := by omega
            have dUV : v49.heap.size ≠ x0.heap.size := by omega
            clear hlt1 hlt2 hlt3
            generalize v48.heap.size = gY at oY hleY dYZ dYU dYV ⊢
            generalize v52.heap.size = gZ at oZ hleZ dYZ dZU dZV ⊢
            generalize v49.heap.size = gU at oU hleU dYU dZU dUV ⊢
            generalize x0.heap.size = gV at oV hleV dYV dZV dUV ⊢
            exact rest gY gZ gU gV v53 ⟨oY, oZ, oU, oV, dYZ, dYU, dYV, dZU, dZV, dUV, hleY, hleZ, hleU, hleV, hH⟩
        · intro KK hKK
          go_simp
          change KK _ (v48.alloc (Obj.cells (ic Is.zero) 23))
          have hleZ : B ≤ v48.heap.size := by rw [hB]; exact hH.size
          refine hKK.out _ _ (hH.alloc hleZ _) (fun hH => ?_)
          clear hKK KK
          try simp only [Act.put, List.setIfInBounds_toArray, List.set_cons_zero, List.set_cons_succ]
          have hlt1 := oV.lt
          replace oV := oV.alloc (Obj.cells (ic Is.zero) 23)
          have oZ := Own.new v48 Is.zero
          generalize v48.alloc (Obj.cells (ic Is.zero) 23) = v54 at *
          refine efs (rs := [4, 6]) (by kernel_rfl) (by decide) ?_
          simp only [List.forall_mem_cons, List.not_mem_nil, false_implies, implies_true, and_true]
          refine ⟨⟨_, rfl, by rfl, ?_⟩, ⟨_, rfl, by rfl, ?_⟩⟩
          · intro KK hKK
            go_simp
            change KK _ (v54.alloc (Obj.cells (ic Is.zero) 23))
            have hleY : B ≤ v54.heap.size := by rw [hB]; exact hH.size
            refine hKK.out _ _ (hH.alloc hleY _) (fun hH => ?_)
            clear hKK KK
            try simp only [Act.put, List.setIfInBounds_toArray, List.set_cons_zero, List.set_cons_succ]
            have hlt2 := oZ.lt
            replace oV := oV.alloc (Obj.cells (ic Is.zero) 23)
            replace oZ := oZ.alloc (Obj.cells (ic Is.zero) 23)
            have oY := Own.new v54 Is.zero
            generalize v54.alloc (Obj.cells (ic Is.zero) 23) = v55 at *
            refine efs (rs := [6]) (by kernel_rfl) (by decide) ?_
            simp only [List.forall_mem_cons, List.not_mem_nil, false_implies, implies_true, and_true]
            refine ⟨_, rfl, by rfl, ?_⟩
            intro KK hKK
            go_simp
            change KK _ (v55.alloc (Obj.cells (ic Is.zero) 23))
            have hleU : B ≤ v55.heap.size := by rw [hB]; exact hH.size
            refine hKK.out _ _ (hH.alloc hleU _) (fun hH => ?_)
            clear hKK KK
            try simp only [Act.put, List.setIfInBounds_toArray, List.set_cons_zero, List.set_cons_succ]
            have hlt3 := oY.lt
            replace oV := oV.alloc (Obj.cells (ic Is.zero) 23)
            replace oZ := oZ.alloc (Obj.cells (ic Is.zero) 23)
            replace oY := oY.alloc (Obj.cells (ic Is.zero) 23)
            have oU := Own.new v55 Is.zero
            generalize v55.alloc (Obj.cells (ic Is.zero) 23) = v56 at *
            have dYZ : v54.heap.size ≠ v48.heap.size := by omega
            have dYU : v54.heap.size ≠ v55.heap.size := by omega
            have dYV : v54.heap.size ≠ x0.heap.size := by omega
            have dZU : v48.heap.size ≠ v55.heap.size := by omega
            have dZV : v48.heap.size ≠ x0.heap.size := by omega
            have dUV : v55.heap.size ≠ x0.heap.size := by omega
            clear hlt1 hlt2 hlt3
            generalize v54.heap.size = gY at oY hleY dYZ dYU dYV ⊢
            generalize v48.heap.size = gZ at oZ hleZ dYZ dZU dZV ⊢
            generalize v55.heap.size = gU at oU hleU dYU dZU dUV ⊢
            generalize x0.heap.size = gV at oV hleV dYV dZV dUV ⊢
            exact rest gY gZ gU gV v56 ⟨oY, oZ, oU, oV, dYZ, dYU, dYV, dZU, dZV, dUV, hleY, hleZ, hleU, hleV, hH⟩
          · intro KK hKK
            go_simp
            change KK _ (v54.alloc (Obj.cells (ic Is.zero) 23))
            have hleU : B ≤ v54.heap.size := by rw [hB]; exact hH.size
            refine hKK.out _ _ (hH.alloc hleU _) (fun hH => ?_)
            clear hKK KK
            try simp only [Act.put, List.setIfInBounds_toArray, List.set_cons_zero, List.set_cons_succ]
            have hlt2 := oZ.lt
            replace oV := oV.alloc (Obj.cells (ic Is.zero) 23)
            replace oZ := oZ.alloc (Obj.cells (ic Is.zero) 23)
            have oU := Own.new v54 Is.zero
            generalize v54.alloc (Obj.cells (ic Is.zero) 23) = v57 at *
            refine efs (rs := [4]) (by kernel_rfl) (by decide) ?_
            simp only [List.forall_mem_cons, List.not_mem_nil, false_implies, implies_true, and_true]
            refine ⟨_, rfl, by rfl, ?_⟩
            intro KK hKK
            go_simp
            change KK _ (v57.alloc (Obj.cells (ic Is.zero) 23))
            have hleY : B ≤ v57.heap.size := by rw [hB]; exact hH.size
            refine hKK.out _ _ (hH.alloc hleY _) (fun hH => ?_)
            clear hKK KK
            try simp only [Act.put, List.setIfInBounds_toArray, List.set_cons_zero, List.set_cons_succ]
            have hlt3 := oU.lt
            replace oV := oV.alloc (Obj.cells (ic Is.zero) 23)
            replace oZ := oZ.alloc (Obj.cells (ic Is.zero) 23)
            replace oU := oU.alloc (Obj.cells (ic Is.zero) 23)
            have oY := Own.new v57 Is.zero
            generalize v57.alloc (Obj.cells (ic Is.zero) 23) = v58 at *
            have dYZ : v57.heap.size ≠ v48.heap.size := by omega
            have dYU : v57.heap.size ≠ v54.heap.size := by omega
            have dYV : v57.heap.size ≠ x0.heap.size := by omega
            have dZU : v48.heap.size ≠ v54.heap.size := by omega
            have dZV : v48.heap.size ≠ x0.heap.size := by omega
            have dUV : v54.heap.size ≠ x0.heap.size := by omega
            clear hlt1 hlt2 hlt3
            generalize v57.heap.size = gY at oY hleY dYZ dYU dYV ⊢
            generalize v48.heap.size = gZ at oZ hleZ dYZ dZU dZV ⊢
            generalize v54.heap.size = gU at oU hleU dYU dZU dUV ⊢
            generalize x0.heap.size = gV at oV hleV dYV dZV dUV ⊢
            exact rest gY gZ gU gV v58 ⟨oY, oZ, oU, oV, dYZ, dYU, dYV, dZU, dZV, dUV, hleY, hleZ, hleU, hleV, hH⟩
        · intro KK hKK
          go_simp
          change KK _ (v48.alloc (Obj.cells (ic Is.zero) 23))
          have hleU : B ≤ v48.heap.size := by rw [hB]; exact hH.size
          refine hKK.out _ _ (hH.alloc hleU _) (fun hH => ?_)
          clear hKK KK
          try simp only [Act.put, List.setIfInBounds_toArray, List.set_cons_zero, List.set_cons_succ]
          have hlt1 := oV.lt
          replace oV := oV.alloc (Obj.cells (ic Is.zero) 23)
          have oU := Own.new v48 Is.zero
          generalize v48.alloc (Obj.cells (ic Is.zero) 23) = v59 at *
          refine efs (rs := [4, 5]) (by kernel_rfl) (by decide) ?_
          simp only [List.forall_mem_cons, List.not_mem_nil, false_implies, implies_true, and_true]
          refine ⟨⟨_, rfl, by rfl, ?_⟩, ⟨_, rfl, by rfl, ?_⟩⟩
          · intro KK hKK
            go_simp
            change KK _ (v59.alloc (Obj.cells (ic Is.zero) 23))
            have hleY : B ≤ v59.heap.size := by rw [hB]; exact hH.size
            refine hKK.out _ _ (hH.alloc hleY _) (fun hH => ?_)
            clear hKK KK
            try simp only [Act.put, List.setIfInBounds_toArray, List.set_cons_zero, List.set_cons_succ]
            have hlt2 := oU.lt
            replace oV := oV.alloc (Obj.cells (ic Is.zero) 23)
            replace oU := oU.alloc (Obj.cells (ic Is.zero) 23)
            have oY := Own.new v59 Is.zero
            generalize v59.alloc (Obj.cells (ic Is.zero) 23) = v60 at *
            refine efs (rs := [5]) (by kernel_rfl) (by decide) ?_
            simp only [List.forall_mem_cons, List.not_mem_nil, false_implies, implies_true, and_true]
            refine ⟨_, rfl, by rfl, ?_⟩
            intro KK hKK
            go_simp
            change KK _ (v60.alloc (Obj.cells (ic Is.zero) 23))
            have hleZ : B ≤ v60.heap.size := by rw [hB]; exact hH.size
            refine hKK.out _ _ (hH.alloc hleZ _) (fun hH => ?_)
            clear hKK KK
            try simp only [Act.put, List.setIfInBounds_toArray, List.set_cons_zero, List.set_cons_succ]
            have hlt3 := oY.lt
            replace oV := oV.alloc (Obj.cells (ic Is.zero) 23)
            replace oU := oU.alloc (Obj.cells (ic Is.zero) 23)
            replace oY := oY.alloc (Obj.cells (ic Is.zero) 23)
            have oZ := Own.new v60 Is.zero
            generalize v60.alloc (Obj.cells (ic Is.zero) 23) = v61 at *
            have dYZ : v59.heap.size ≠ v60.heap.size := by omega
            have dYU : v59.heap.size ≠ v48.heap.size := by omega
            have dYV : v59.heap.size ≠ x0.heap.size := by omega
            have dZU : v60.heap.size ≠ v48.heap.size := by omega
            have dZV : v60.heap.size ≠ x0.heap.size := by omega
            have dUV : v48.heap.size ≠ x0.heap.size := by omega
            clear hlt1 hlt2 hlt3
            generalize v59.heap.size = gY at oY hleY dYZ dYU dYV ⊢
            generalize v60.heap.size = gZ at oZ hleZ dYZ dZU dZV ⊢
            generalize v48.heap.size = gU at oU hleU dYU dZU dUV ⊢
            generalize x0.heap.size = gV at oV hleV dYV dZV dUV ⊢
            exact rest gY gZ gU gV v61 ⟨oY, oZ, oU, oV, dYZ, dYU, dYV, dZU, dZV, dUV, hleY, hleZ, hleU, hleV, hH⟩
          · intro KK hKK
            go_simp
            change KK _ (v59.alloc (Obj.cells (ic Is.zero) 23))
            have hleZ : B ≤ v59.heap.size := by rw [hB]; exact hH.size
            refine hKK.out _ _ (hH.alloc hleZ _) (fun hH => ?_)
            clear hKK KK
            try simp only [Act.put, List.setIfInBounds_toArray, List.set_cons_zero, List.set_cons_succ]
            have hlt2 := oU.lt
            replace oV := oV.alloc (Obj.cells (ic Is.zero) 23)
            replace oU := oU.alloc (Obj.cells (ic Is.zero) 23)
            have oZ := Own.new v59 Is.zero
            generalize v59.alloc (Obj.cells (ic Is.zero) 23) = v62 at *
            refine efs (rs := [4]) (by kernel_rfl) (by decide) ?_
            simp only [List.forall_mem_cons, List.not_mem_nil, false_implies, implies_true, and_true]
            refine ⟨_, rfl, by rfl, ?_⟩
            intro KK hKK
            go_simp
            change KK _ (v62.alloc (Obj.cells (ic Is.zero) 23))
            have hleY : B ≤ v62.heap.size := by rw [hB]; exact hH.size
            refine hKK.out _ _ (hH.alloc hleY _) (fun hH => ?_)
            clear hKK KK
            try simp only [Act.put, List.setIfInBounds_toArray, List.set_cons_zero, List.set_cons_succ]
            have hlt3 := oZ.lt
            replace oV := oV.alloc (Obj.cells (ic Is.zero) 23)
            replace oU := oU.alloc (Obj.cells (ic Is.zero) 23)
            replace oZ := oZ.alloc (Obj.cells (ic Is.zero) 23)
            have oY := Own.new v62 Is.zero
            generalize v62.alloc (Obj.cells (ic Is.zero) 23) = v63 at *
            have dYZ : v62.heap.size ≠ v59.heap.size := by omega
            have dYU : v62.heap.size ≠ v48.heap.size := by omega
            have dYV : v62.heap.size ≠ x0.heap.size := by omega
            have dZU : v59.heap.size ≠ v48.heap.size := by omega
            have dZV : v59.heap.size ≠ x0.heap.size := by omega
            have dUV : v48.heap.size ≠ x0.heap.size := by omega
            clear hlt1 hlt2 hlt3
            generalize v62.heap.size = gY at oY hleY dYZ dYU dYV ⊢
            generalize v59.heap.size = gZ at oZ hleZ dYZ dZU dZV ⊢
            generalize v48.heap.size = gU at oU hleU dYU dZU dUV ⊢
            generalize x0.heap.size = gV at oV hleV dYV dZV dUV ⊢
            exact rest gY gZ gU gV v63 ⟨oY, oZ, oU, oV, dYZ, dYU, dYV, dZU, dZV, dUV, hleY, hleZ, hleU, hleV, hH⟩
    · rintro gY gZ gU gV wF ⟨oY, oZ, oU, oV, dYZ, dYU, dYV, dZU, dZV, dUV, hleY, hleZ, hleU, hleV, hH⟩
      refine efs (rs := [8]) (by kernel_rfl) (by decide) ?_
      simp only [List.forall_mem_cons, List.not_mem_nil, false_implies, implies_true, and_true]
      refine ⟨_, rfl, by rfl, ?_⟩
      intro KK hKK
      refine wp_store_row 23 _ _ rfl gY (ic x) rfl rfl 23 (ic Is.zero) oY (by kernel_rfl) rfl (ic_one x) ?_
      refine hKK.out _ _ (below_row hH hleY _) (fun hH => ?_)
      clear hKK KK
      replace oY := oY.row x
      replace oZ := oZ.rowOther gY (ic x) (by omega)
      replace oU := oU.rowOther gY (ic x) (by omega)
      replace oV := oV.rowOther gY (ic x) (by omega)
      generalize wF.setRow gY (ic x) = u0 at *
      try simp only [Act.put, List.setIfInBounds_toArray, List.set_cons_zero, List.set_cons_succ]
      refine efs (rs := [9]) (by kernel_rfl) (by decide) ?_
      simp only [List.forall_mem_cons, List.not_mem_nil, false_implies, implies_true, and_true]
      refine ⟨_, rfl, by rfl, ?_⟩
      intro KK hKK
      refine wp_store_row 23 _ _ rfl gZ (ic x) rfl rfl 23 (ic Is.zero) oZ (by kernel_rfl) rfl (ic_one x) ?_
      refine hKK.out _ _ (below_row hH hleZ _) (fun hH => ?_)
      clear hKK KK
      replace oZ := oZ.row x
      replace oY := oY.rowOther gZ (ic x) (by omega)
      replace oU := oU.rowOther gZ (ic x) (by omega)
      replace oV := oV.rowOther gZ (ic x) (by omega)
      generalize u0.setRow gZ (ic x) = u1 at *
      try simp only [Act.put, List.setIfInBounds_toArray, List.set_cons_zero, List.set_cons_succ]
      refine efs (rs := [10]) (by kernel_rfl) (by decide) ?_
      simp only [List.forall_mem_cons, List.not_mem_nil, false_implies, implies_true, and_true]
      refine ⟨_, rfl, by rfl, ?_⟩
      intro KK hKK
      refine wp_store_row 23 _ _ rfl gU (ic x) rfl rfl 23 (ic Is.zero) oU (by kernel_rfl) rfl (ic_one x) ?_
      refine hKK.out _ _ (below_row hH hleU _) (fun hH => ?_)
      clear hKK KK
      replace oU := oU.row x
      replace oY := oY.rowOther gU (ic x) (by omega)
      replace oZ := oZ.rowOther gU (ic x) (by omega)
      replace oV := oV.rowOther gU (ic x) (by omega)
      generalize u1.setRow gU (ic x) = u2 at *
      try simp only [Act.put, List.setIfInBounds_toArray, List.set_cons_zero, List.set_cons_succ]
      refine efs (rs := [11]) (by kernel_rfl) (by decide) ?_
      simp only [List.forall_mem_cons, List.not_mem_nil, false_implies, implies_true, and_true]
      refine ⟨_, rfl, by rfl, ?_⟩
      intro KK hKK
      refine wp_store_row 23 _ _ rfl gV (ic x) rfl rfl 23 (ic Is.zero) oV (by kernel_rfl) rfl (ic_one x) ?_
      refine hKK.out _ _ (below_row hH hleV _) (fun hH => ?_)
      clear hKK KK
      replace oV := oV.row x
      replace oY := oY.rowOther gV (ic x) (by omega)
      replace oZ := oZ.rowOther gV (ic x) (by omega)
      replace oU := oU.rowOther gV (ic x) (by omega)
      generalize u2.setRow gV (ic x) = u3 at *
      try simp only [Act.put, List.setIfInBounds_toArray, List.set_cons_zero, List.set_cons_succ]
      refine wpAnyH_done (by kernel_rfl) ?_ _
      try simp only [Act.put, List.getElem_toArray, List.getElem_cons_zero, List.getElem_cons_succ, List.setIfInBounds_toArray, List.set_cons_zero, List.set_cons_succ]
      have a1 := oY.at_.c1
      have a2 := oZ.at_.c2
      have a3 := oU.at_.c3
      have a4 := oV.at_.c4
      have f1 := oY.frozen 1
      have f2 := oZ.frozen 2
      have f3 := oU.frozen 3
      have f4 := oV.frozen 4
      obtain ⟨y, hy⟩ : ∃ y, y = (((u3.setCell ⟨gY, 1, none⟩ (.int .u8 (m1 : Int))).setCell ⟨gZ, 2, none⟩ (.int .u8 (m2 : Int))).setCell ⟨gU, 3, none⟩ (.int .u8 (m3 : Int))).setCell ⟨gV, 4, none⟩ (.int .i32 n) := ⟨_, rfl⟩
      have pY : Own y gY { x with a := m1 } := by rw [hy]; exact (((oY.setA m1).other _ _ dYZ).other _ _ dYU).other _ _ dYV
      have pZ : Own y gZ { x with b := m2 } := by rw [hy]; exact (((oZ.other _ _ dYZ.symm).setB m2).other _ _ dZU).other _ _ dZV
      have pU : Own y gU { x with c := m3 } := by rw [hy]; exact (((oU.other _ _ dYU.symm).other _ _ dZU.symm).setC m3).other _ _ dUV
      have pV : Own y gV { x with imm := n } := by rw [hy]; exact (((oV.other _ _ dYV.symm).other _ _ dZV.symm).other _ _ dUV.symm).setI n
      have bY : Below B x0 y := by rw [hy]; exact (((hH.setCell hleY _).setCell hleZ _).setCell hleU _).setCell hleV _
      have HY := Lib.hid hy
      have dZY := dYZ.symm
      have dUY := dYU.symm
      have dVY := dYV.symm
      have dUZ := dZU.symm
      have dVZ := dZV.symm
      have dVU := dUV.symm
      clear hy oY oZ oU oV hH hx
      generalize hrA : Is.enc { x with a := m1 } = rA at *
      generalize hrB : Is.enc { x with b := m2 } = rB at *
      generalize hrC : Is.enc { x with c := m3 } = rC at *
      generalize hrI : Is.enc { x with imm := n } = rI at *
      obtain ⟨p, f⟩ := rA
      obtain ⟨q, g⟩ := rB
      obtain ⟨r, h⟩ := rC
      obtain ⟨s, i⟩ := rI
      have MA : Hid (f = 0 → bits .andNot .u32 (bits .xor .u32 (v : Int) (p : Int)) 62914560 = 0 ∧ bits .and .u32 ((p : Int) / 4194304) 15 = (m1 : Int)) := Lib.hid fun e => bitA HR.out (by rw [← e]; exact hrA)
      have MB : Hid (g = 0 → bits .andNot .u32 (bits .xor .u32 (v : Int) (q : Int)) 3932160 = 0 ∧ bits .and .u32 ((q : Int) / 262144) 15 = (m2 : Int)) := Lib.hid fun e => bitB HR.out (by rw [← e]; exact hrB)
      have MC : Hid (h = 0 → bits .andNot .u32 (bits .xor .u32 (v : Int) (r : Int)) 245760 = 0) := Lib.hid fun e => bitC HR.out (by rw [← e]; exact hrC)
      have MI : Hid (i = 0 → bits .xor .u32 (v : Int) (s : Int) / 65536 = 0) := Lib.hid fun e => bitI HR.out (by rw [← e]; exact hrI)
      clear hrA hrB hrC hrI
      simp only at hA hB hC hI
      go_wp2_with (first | (rw [← HY.out]; refine ldI rfl rfl rfl pY ?_) | (refine ldI rfl rfl rfl pZ ?_) | (refine ldI rfl rfl rfl pU ?_) | (refine ldI rfl rfl rfl pV ?_) | (refine (hA _).mono ?_; clear hA; rintro e s1 ⟨rfl, b1⟩; replace bY := bY.trans (b1.mono (by have := bY.size; omega)); replace pZ := pZ.below b1; replace pU := pU.below b1; replace pV := pV.below b1; clear b1) | (refine (hB _).mono ?_; clear hB; rintro e s2 ⟨rfl, b1⟩; replace bY := bY.trans (b1.mono (by have := bY.size; omega)); replace pU := pU.below b1; replace pV := pV.below b1; clear b1) | (refine (hC _).mono ?_; clear hC; rintro e s3 ⟨rfl, b1⟩; replace bY := bY.trans (b1.mono (by have := bY.size; omega)); replace pV := pV.below b1; clear b1) | (refine (hI _).mono ?_; clear hI; rintro e s4 ⟨rfl, b1⟩; replace bY := bY.trans (b1.mono (by have := bY.size; omega)); clear b1))
      all_goals first
        | exact absurd (MA.out (by assumption)).1 (by assumption)
        | exact absurd (MA.out (by assumption)).2 (by assumption)
        | exact absurd (MB.out (by assumption)).1 (by assumption)
        | exact absurd (MB.out (by assumption)).2 (by assumption)
        | exact absurd (MC.out (by assumption)) (by assumption)
        | (go_ret; refine ⟨?_, bV.trans (bY.mono (by rw [hB]; exact bV.size))⟩; first | rfl | (rw [MI.out (by assumption)]; rfl))
  · have i1 : ((e0 : Int) == 0) = false := by rw [beq_eq_false_iff_ne]; omega
    have i2 : ((e0 : Int) != 0) = true := by rw [bne, i1]; rfl
    clear hr hn hx hA hB hC hI
    go_enter Tryd.func9, Tryd.ntmps9
    go_wp2_with fail
    change Calls _ _ _ (W.alloc (Obj.cells (ic x) 23)) _
    rw [← HV.out]
    clear HV
    refine (ha _ TV).mono ?_
    rintro e w1 ⟨rfl, b1⟩
    replace st0 := st0.below b1
    replace bV := bV.trans (b1.mono bV.size)
    clear b1 TV ha
    have ld0 := st0.at_
    obtain ⟨c0, c1, c2, c3, c4⟩ := ld0
    go_wp2_with fail
    refine (h1 _).mono ?_
    rintro e w2 ⟨rfl, b1⟩
    replace bV := bV.trans (b1.mono bV.size)
    clear b1 c0 c1 c2 c3 c4 h1
    go_wp2_with fail
    go_ret
    exact ⟨rfl, bV⟩

set_option maxRecDepth 100000 in
theorem lifted (os : Os) (started : os.Started) (H : Type) (enc : TypeId × Value → H) :
    ReturnsInHanded {} Tryd.checked os 9 .any (fun w args => (Rows.isaFieldsSpec.pre enc Tryd.prog Tryd.f9 [] false w args ∧ laidMetH Tryd.prog lay4 w) ∧ sizedMet enc Tryd.prog Tryd.f9 (OpenSpec.ofChange Rows.isaFieldsSpec) false w args)
      (Rows.isaFieldsSpec.post enc Tryd.prog Tryd.f9 false true false false) := by
  refine returnsInHanded_of_change_and (C := Tryd.checked) (X := fun w _ => laidMetH Tryd.prog lay4 w) (fun _ _ _ hh h => h.of_heap hh) own started (by kernel_rfl) Tryd.func9
    (ChangeSpec.witness_shaped (enc := enc) (C := Tryd.checked) (os := os) (X := fun w _ => laidMetH Tryd.prog lay4 w) false (World.doorLaid Tryd.prog 400 os) #[.agg #[.int .u8 0, .int .u8 0, .int .u8 0, .int .u8 0, .int .i32 0], .int .u8 0, .int .u8 0, .int .u8 0, .int .i32 0] 8 rfl (World.shaped_of_RefB (by kernel_rfl) (by kernel_rfl)) (by kernel_rfl) (by kernel_rfl) (by kernel_rfl) (door_met os _)) ?_
  intro W base args ds gs before hval0 hW _ _ hL _
  have hval : ∀ (j : Nat) t v, Tryd.f9.params[j]? = some t → args[j]? = some v → Value.okWide Tryd.prog W .any base t v := hval0
  have hW' := hW
  obtain ⟨p, q, hA0, hV, rfl, hfz, hnd⟩ := hW
  have hA : DataW.TrodAll enc Tryd.prog W 0 (fun _ => true) true Tryd.f9.params.toList args.toList ds p := hA0
  rw [Tryd.params9] at hA hval
  obtain ⟨v0, vs0, d0, ds0, p0, q0, hargs, rfl, rfl, h0, r0⟩ := trodAll_cons hA
  obtain ⟨v1, vs1, d1, ds1, p1, q1, rfl, rfl, rfl, h1, r1⟩ := trodAll_cons r0
  obtain ⟨v2, vs2, d2, ds2, p2, q2, rfl, rfl, rfl, h2, r2⟩ := trodAll_cons r1
  obtain ⟨v3, vs3, d3, ds3, p3, q3, rfl, rfl, rfl, h3, r3⟩ := trodAll_cons r2
  obtain ⟨v4, vs4, d4, ds4, p4, q4, rfl, rfl, rfl, h4, r4⟩ := trodAll_cons r3
  obtain ⟨rfl, rfl, rfl⟩ := trodAll_nil r4
  obtain rfl : args = #[v0, v1, v2, v3, v4] := by cases args; simp_all
  obtain ⟨rfl, rfl⟩ := trodVars_none hV
  obtain ⟨K0, rfl, b0⟩ := okIns (hval 0 23 v0 rfl rfl)
  have k0 := h0
  have lt0 : ∀ x ∈ p0, x.block < W.heap.size := by obtain ⟨m, hm⟩ := k0; exact DataW.trod_lt m _ _ _ hm
  obtain ⟨n1, rfl, rfl, rfl, w1⟩ := open_int Tryd.underlying5 (hval 1 5 v1 rfl rfl) h1
  obtain ⟨m1, rfl, z1⟩ := nat_u8 w1
  obtain ⟨n2, rfl, rfl, rfl, w2⟩ := open_int Tryd.underlying5 (hval 2 5 v2 rfl rfl) h2
  obtain ⟨m2, rfl, z2⟩ := nat_u8 w2
  obtain ⟨n3, rfl, rfl, rfl, w3⟩ := open_int Tryd.underlying5 (hval 3 5 v3 rfl rfl) h3
  obtain ⟨m3, rfl, z3⟩ := nat_u8 w3
  obtain ⟨n4, rfl, rfl, rfl, w4⟩ := open_int Tryd.underlying21 (hval 4 21 v4 rfl rfl) h4
  have z4 := int_i32 w4
  have hT := of_laid hL
  clear hA0 hval0
  refine (walk (fun wr T => al_any wr T) K0 m1 m2 m3 n4 b0 z1 z2 z3 z4 W hT).mono fun e W' ⟨he, bel⟩ => ?_
  subst he
  exact ⟨_, rfl, _, _, _, [], _, [], hW', trodAll_mk1 (shut_bool Tryd.underlying4 _), (trodAll_cons_mk (Below.trod laidOut (by kernel_rfl) (of_decide_eq_true (by kernel_rfl)) k0 bel lt0) (trodAll_cons_mk (shut_int Tryd.underlying5 w1) (trodAll_cons_mk (shut_int Tryd.underlying5 w2) (trodAll_cons_mk (shut_int Tryd.underlying5 w3) (trodAll_cons_mk (shut_int Tryd.underlying21 w4) trodAll_mk0))))), rfl, bel.frame _, fun h => by cases h⟩

theorem bare : Rows.IsaFieldsSaid :=
  OpenClaim.holds_of_wide 9 Tryd.f9 rfl rfl rfl rfl rfl rfl rfl ⟨rfl, rfl, rfl, rfl, rfl⟩ rfl rfl rfl rfl rfl (by kernel_rfl) Tryd.func9 (by kernel_rfl)
    (of_decide_eq_true (by kernel_rfl)) (by unfold Func.isWrapper; first | (rw [if_pos (by decide +kernel)]; kernel_rfl) | (rw [if_neg (by decide +kernel)]; exact ⟨rfl, rfl⟩))
    (fun os started H enc _ => lifted os started H enc)

/-- the statement -/
theorem proved : Rows.IsaFieldsCardSaid :=
  Claim7.holds_tied_plain_at .later [] [.data, .data, .data, .data] true Rows.isaFieldsCard.stood.harness false
    bare (fun _ h => by cases h) (by kernel_rfl) (fun _ h => by cases h) isaFields_row_tie rfl ⟨rfl, rfl⟩ (by kernel_rfl) rfl
    (fun f fn hf hfn => by
      obtain rfl : f = 9 := Option.some.inj ((show Tryd.prog.funcNamed "hibernacle/hibernaclelaw10.IsaFields" = some 9 by kernel_rfl).symm.trans hf) |>.symm
      obtain rfl : fn = Tryd.f9 := (Option.some.inj (Tryd.func9.symm.trans hfn)).symm
      exact ⟨by kernel_rfl, fun j t ht => by
        rw [Tryd.params9] at ht
        have hm : t ∈ [23, 5, 5, 5, 21] := by simpa using Array.mem_of_getElem? ht
        have hall : ([23, 5, 5, 5, 21].all fun u => !Tryd.prog.wantsStandIn u) = true := by kernel_rfl
        exact (show Tryd.prog.wantsStandIn t = false by simpa using List.all_eq_true.1 hall t hm)⟩)
    (by kernel_rfl)
end Go.Proofs.YtmafeekhbcpomaaDoor.isaFields
