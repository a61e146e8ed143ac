/-
  THE WALK of a mix, of the document's answer.
-/
import Derived.Test.YtaoaebdjinlcnaaDoorAr
set_option linter.unusedVariables false
set_option linter.unusedSimpArgs false
set_option maxRecDepth 100000
namespace Go.Proofs.YtaoaebdjinlcnaaDoor
open Go.RowKit
set_option maxRecDepth 100000 in
set_option maxHeartbeats 4000000 in
theorem rmix_any (S : List Nat) (hS : Bl.Ok 16 S) (a b c d x y : Nat) (w : World) (ha : a < 16) (hb : b < 16) (hc : c < 16) (hd : d < 16) (ab : a ≠ b) (ac : a ≠ c) (ad : a ≠ d) (bc : b ≠ c) (bd : b ≠ d) (cd : c ≠ d) :
    Calls Tryd.prog 88 #[.agg (vs .u32 S), .int .i64 a, .int .i64 b, .int .i64 c, .int .i64 d, .int .u32 x, .int .u32 y] w fun e w' => e = .returned (.agg (vs .u32 (Bl.mixL S a b c d x y))) ∧ Below w.heap.size w w' := by
  have ia : (a : Int) < 16 := by omega
  have ib : (b : Int) < 16 := by omega
  have ic : (c : Int) < 16 := by omega
  have id : (d : Int) < 16 := by omega
  have lS := hS.1
  obtain ⟨v0, hW0⟩ : ∃ W0, W0 = ((w.alloc (Obj.cells (vs .u32 S) 110)).alloc (Obj.cells (vs .u32 (List.replicate 16 0)) 110)) := ⟨_, rfl⟩
  have hw : Own v0 w.heap.size 110 (vs .u32 S) := by rw [hW0]; exact (Own.new' _ _ _ rfl).alloc _
  have o1 : Own v0 (w.heap.size + 1) 110 (vs .u32 (List.replicate 16 0)) := by rw [hW0]; exact Own.new' _ _ _ (by simp)
  have hb0 : Below w.heap.size w v0 := by rw [hW0]; exact ((Below.refl _ w).alloc (by simp) _).alloc (by simp) _
  have HW0 := Lib.hid hW0
  clear hW0
  have HC := Lib.hid (And.intro ha (And.intro hb (And.intro hc hd)))
  have HD := Lib.hid (And.intro ab (And.intro ac (And.intro ad (And.intro bc (And.intro bd cd)))))
  clear ab ac ad bc bd cd
  go_enter Tryd.func88, Tryd.ntmps88
  go_wp2_with fail
  change Code.wp _ _ _ _ ((w.alloc (Obj.cells (vs .u32 S) 110)).alloc (Obj.cells (vs .u32 (List.replicate 16 0)) 110))
  rw [← HW0.out]
  clear HW0
  have HP := Lib.hid (And.intro o1 hb0)
  have ho := Only.refl w.heap.size v0
  clear o1 hb0
  have c1 := hw.drew.cell (i := a) (by rw [hS.1]; exact ha)
  have c2 := hw.drew.cell (i := b) (by rw [hS.1]; exact hb)
  have z1 := hw.drew.frozen a
  have hs := hw.drew.set a (Bl.add (Bl.add (Bl.nth S a) (Bl.nth S b)) x)
  have hoo := ho.drew.set a (.int .u32 ((Bl.add (Bl.add (Bl.nth S a) (Bl.nth S b)) x) : Nat))
  have e1 := addw (Bl.nth S a) (Bl.nth S b)
  have e2 := addw (Bl.add (Bl.nth S a) (Bl.nth S b)) x
  have hS1 := hS.set a (Bl.add (Bl.add (Bl.nth S a) (Bl.nth S b)) x) (Bl.add_lt _ _)
  generalize hq : S.set a (Bl.add (Bl.add (Bl.nth S a) (Bl.nth S b)) x) = S1 at hs hS1
  have HS1 := Lib.hid hq
  clear hq
  refine wp_region_still_tail 11 (by kernel_rfl) (by kernel_rfl) ?_
  simp only [List.take_succ_cons, List.take_zero, List.drop_succ_cons, List.drop_zero]
  change wpStill _ _ v0.drew (fun a' => wpList _ _ _ _ a' v0.drew) _ _
  generalize v0.drew = w2 at *
  repeat still_step
  refine wpStill_nil ?_
  change wpList _ _ _ _ _ w2
  go_wp2
  clear hw ho hS c1 c2 z1 e1 e2
  have hw := hs
  have ho := hoo
  have hS := hS1
  clear hs hoo hS1
  generalize w2.setCell ⟨w.heap.size, a, none⟩ (.int .u32 ((Bl.add (Bl.add (Bl.nth S a) (Bl.nth S b)) x) : Nat)) = v1 at *
  clear w2
  have c1 := hw.drew.cell (i := d) (by rw [hS.1]; exact hd)
  have c2 := hw.drew.cell (i := a) (by rw [hS.1]; exact ha)
  have z1 := hw.drew.frozen d
  have hs := hw.drew.set d (Bl.rot (Bl.nth S1 d ^^^ Bl.nth S1 a) 16)
  have hoo := ho.drew.set d (.int .u32 ((Bl.rot (Bl.nth S1 d ^^^ Bl.nth S1 a) 16) : Nat))
  have e1 := u32_xor_nat _ _ (hS.nth d) (hS.nth a)
  have hr := fun w => turned16_any (Bl.nth S1 d ^^^ Bl.nth S1 a) w (Bl.xor_lt (hS.nth _) (hS.nth _))
  have hS1 := hS.set d (Bl.rot (Bl.nth S1 d ^^^ Bl.nth S1 a) 16) (Bl.rot_lt _ _ (Bl.xor_lt (hS.nth _) (hS.nth _)) (by decide))
  generalize hq : S1.set d (Bl.rot (Bl.nth S1 d ^^^ Bl.nth S1 a) 16) = S2 at hs hS1
  have HS2 := Lib.hid hq
  clear hq
  refine wp_region_still_tail 10 (by kernel_rfl) (by kernel_rfl) ?_
  simp only [List.take_succ_cons, List.take_zero, List.drop_succ_cons, List.drop_zero]
  change wpStill _ _ v1.drew (fun a' => wpList _ _ _ _ a' v1.drew) _ _
  generalize v1.drew = w2 at *
  repeat still_step
  still_call ((hr _).mono fun e w'' h => ⟨h.1, h.2.symm⟩)
  repeat still_step
  refine wpStill_nil ?_
  change wpList _ _ _ _ _ w2
  go_wp2
  clear hw ho hS c1 c2 z1 e1 hr
  have hw := hs
  have ho := hoo
  have hS := hS1
  clear hs hoo hS1
  generalize w2.setCell ⟨w.heap.size, d, none⟩ (.int .u32 ((Bl.rot (Bl.nth S1 d ^^^ Bl.nth S1 a) 16) : Nat)) = v2 at *
  clear v1 w2
  have c1 := hw.drew.cell (i := c) (by rw [hS.1]; exact hc)
  have c2 := hw.drew.cell (i := d) (by rw [hS.1]; exact hd)
  have z1 := hw.drew.frozen c
  have hs := hw.drew.set c (Bl.add (Bl.nth S2 c) (Bl.nth S2 d))
  have hoo := ho.drew.set c (.int .u32 ((Bl.add (Bl.nth S2 c) (Bl.nth S2 d)) : Nat))
  have e1 := addw (Bl.nth S2 c) (Bl.nth S2 d)
  have hS1 := hS.set c (Bl.add (Bl.nth S2 c) (Bl.nth S2 d)) (Bl.add_lt _ _)
  generalize hq : S2.set c (Bl.add (Bl.nth S2 c) (Bl.nth S2 d)) = S3 at hs hS1
  have HS3 := Lib.hid hq
  clear hq
  refine wp_region_still_tail 9 (by kernel_rfl) (by kernel_rfl) ?_
  simp only [List.take_succ_cons, List.take_zero, List.drop_succ_cons, List.drop_zero]
  change wpStill _ _ v2.drew (fun a' => wpList _ _ _ _ a' v2.drew) _ _
  generalize v2.drew = w2 at *
  repeat still_step
  refine wpStill_nil ?_
  change wpList _ _ _ _ _ w2
  go_wp2
  clear hw ho hS c1 c2 z1 e1
  have hw := hs
  have ho := hoo
  have hS := hS1
  clear hs hoo hS1
  generalize w2.setCell ⟨w.heap.size, c, none⟩ (.int .u32 ((Bl.add (Bl.nth S2 c) (Bl.nth S2 d)) : Nat)) = v3 at *
  clear v2 w2
  have c1 := hw.drew.cell (i := b) (by rw [hS.1]; exact hb)
  have c2 := hw.drew.cell (i := c) (by rw [hS.1]; exact hc)
  have z1 := hw.drew.frozen b
  have hs := hw.drew.set b (Bl.rot (Bl.nth S3 b ^^^ Bl.nth S3 c) 20)
  have hoo := ho.drew.set b (.int .u32 ((Bl.rot (Bl.nth S3 b ^^^ Bl.nth S3 c) 20) : Nat))
  have e1 := u32_xor_nat _ _ (hS.nth b) (hS.nth c)
  have hr := fun w => turned12_any (Bl.nth S3 b ^^^ Bl.nth S3 c) w (Bl.xor_lt (hS.nth _) (hS.nth _))
  have hS1 := hS.set b (Bl.rot (Bl.nth S3 b ^^^ Bl.nth S3 c) 20) (Bl.rot_lt _ _ (Bl.xor_lt (hS.nth _) (hS.nth _)) (by decide))
  generalize hq : S3.set b (Bl.rot (Bl.nth S3 b ^^^ Bl.nth S3 c) 20) = S4 at hs hS1
  have HS4 := Lib.hid hq
  clear hq
  refine wp_region_still_tail 10 (by kernel_rfl) (by kernel_rfl) ?_
  simp only [List.take_succ_cons, List.take_zero, List.drop_succ_cons, List.drop_zero]
  change wpStill _ _ v3.drew (fun a' => wpList _ _ _ _ a' v3.drew) _ _
  generalize v3.drew = w2 at *
  repeat still_step
  still_call ((hr _).mono fun e w'' h => ⟨h.1, h.2.symm⟩)
  repeat still_step
  refine wpStill_nil ?_
  change wpList _ _ _ _ _ w2
  go_wp2
  clear hw ho hS c1 c2 z1 e1 hr
  have hw := hs
  have ho := hoo
  have hS := hS1
  clear hs hoo hS1
  generalize w2.setCell ⟨w.heap.size, b, none⟩ (.int .u32 ((Bl.rot (Bl.nth S3 b ^^^ Bl.nth S3 c) 20) : Nat)) = v4 at *
  clear v3 w2
  have c1 := hw.drew.cell (i := a) (by rw [hS.1]; exact ha)
  have c2 := hw.drew.cell (i := b) (by rw [hS.1]; exact hb)
  have z1 := hw.drew.frozen a
  have hs := hw.drew.set a (Bl.add (Bl.add (Bl.nth S4 a) (Bl.nth S4 b)) y)
  have hoo := ho.drew.set a (.int .u32 ((Bl.add (Bl.add (Bl.nth S4 a) (Bl.nth S4 b)) y) : Nat))
  have e1 := addw (Bl.nth S4 a) (Bl.nth S4 b)
  have e2 := addw (Bl.add (Bl.nth S4 a) (Bl.nth S4 b)) y
  have hS1 := hS.set a (Bl.add (Bl.add (Bl.nth S4 a) (Bl.nth S4 b)) y) (Bl.add_lt _ _)
  generalize hq : S4.set a (Bl.add (Bl.add (Bl.nth S4 a) (Bl.nth S4 b)) y) = S5 at hs hS1
  have HS5 := Lib.hid hq
  clear hq
  refine wp_region_still_tail 11 (by kernel_rfl) (by kernel_rfl) ?_
  simp only [List.take_succ_cons, List.take_zero, List.drop_succ_cons, List.drop_zero]
  change wpStill _ _ v4.drew (fun a' => wpList _ _ _ _ a' v4.drew) _ _
  generalize v4.drew = w2 at *
  repeat still_step
  refine wpStill_nil ?_
  change wpList _ _ _ _ _ w2
  go_wp2
  clear hw ho hS c1 c2 z1 e1 e2
  have hw := hs
  have ho := hoo
  have hS := hS1
  clear hs hoo hS1
  generalize w2.setCell ⟨w.heap.size, a, none⟩ (.int .u32 ((Bl.add (Bl.add (Bl.nth S4 a) (Bl.nth S4 b)) y) : Nat)) = v5 at *
  clear v4 w2
  have c1 := hw.drew.cell (i := d) (by rw [hS.1]; exact hd)
  have c2 := hw.drew.cell (i := a) (by rw [hS.1]; exact ha)
  have z1 := hw.drew.frozen d
  have hs := hw.drew.set d (Bl.rot (Bl.nth S5 d ^^^ Bl.nth S5 a) 24)
  have hoo := ho.drew.set d (.int .u32 ((Bl.rot (Bl.nth S5 d ^^^ Bl.nth S5 a) 24) : Nat))
  have e1 := u32_xor_nat _ _ (hS.nth d) (hS.nth a)
  have hr := fun w => turned8_any (Bl.nth S5 d ^^^ Bl.nth S5 a) w (Bl.xor_lt (hS.nth _) (hS.nth _))
  have hS1 := hS.set d (Bl.rot (Bl.nth S5 d ^^^ Bl.nth S5 a) 24) (Bl.rot_lt _ _ (Bl.xor_lt (hS.nth _) (hS.nth _)) (by decide))
  generalize hq : S5.set d (Bl.rot (Bl.nth S5 d ^^^ Bl.nth S5 a) 24) = S6 at hs hS1
  have HS6 := Lib.hid hq
  clear hq
  refine wp_region_still_tail 10 (by kernel_rfl) (by kernel_rfl) ?_
  simp only [List.take_succ_cons, List.take_zero, List.drop_succ_cons, List.drop_zero]
  change wpStill _ _ v5.drew (fun a' => wpList _ _ _ _ a' v5.drew) _ _
  generalize v5.drew = w2 at *
  repeat still_step
  still_call ((hr _).mono fun e w'' h => ⟨h.1, h.2.symm⟩)
  repeat still_step
  refine wpStill_nil ?_
  change wpList _ _ _ _ _ w2
  go_wp2
  clear hw ho hS c1 c2 z1 e1 hr
  have hw := hs
  have ho := hoo
  have hS := hS1
  clear hs hoo hS1
  generalize w2.setCell ⟨w.heap.size, d, none⟩ (.int .u32 ((Bl.rot (Bl.nth S5 d ^^^ Bl.nth S5 a) 24) : Nat)) = v6 at *
  clear v5 w2
  have c1 := hw.drew.cell (i := c) (by rw [hS.1]; exact hc)
  have c2 := hw.drew.cell (i := d) (by rw [hS.1]; exact hd)
  have z1 := hw.drew.frozen c
  have hs := hw.drew.set c (Bl.add (Bl.nth S6 c) (Bl.nth S6 d))
  have hoo := ho.drew.set c (.int .u32 ((Bl.add (Bl.nth S6 c) (Bl.nth S6 d)) : Nat))
  have e1 := addw (Bl.nth S6 c) (Bl.nth S6 d)
  have hS1 := hS.set c (Bl.add (Bl.nth S6 c) (Bl.nth S6 d)) (Bl.add_lt _ _)
  generalize hq : S6.set c (Bl.add (Bl.nth S6 c) (Bl.nth S6 d)) = S7 at hs hS1
  have HS7 := Lib.hid hq
  clear hq
  refine wp_region_still_tail 9 (by kernel_rfl) (by kernel_rfl) ?_
  simp only [List.take_succ_cons, List.take_zero, List.drop_succ_cons, List.drop_zero]
  change wpStill _ _ v6.drew (fun a' => wpList _ _ _ _ a' v6.drew) _ _
  generalize v6.drew = w2 at *
  repeat still_step
  refine wpStill_nil ?_
  change wpList _ _ _ _ _ w2
  go_wp2
  clear hw ho hS c1 c2 z1 e1
  have hw := hs
  have ho := hoo
  have hS := hS1
  clear hs hoo hS1
  generalize w2.setCell ⟨w.heap.size, c, none⟩ (.int .u32 ((Bl.add (Bl.nth S6 c) (Bl.nth S6 d)) : Nat)) = v7 at *
  clear v6 w2
  have c1 := hw.drew.cell (i := b) (by rw [hS.1]; exact hb)
  have c2 := hw.drew.cell (i := c) (by rw [hS.1]; exact hc)
  have z1 := hw.drew.frozen b
  have hs := hw.drew.set b (Bl.rot (Bl.nth S7 b ^^^ Bl.nth S7 c) 25)
  have hoo := ho.drew.set b (.int .u32 ((Bl.rot (Bl.nth S7 b ^^^ Bl.nth S7 c) 25) : Nat))
  have e1 := u32_xor_nat _ _ (hS.nth b) (hS.nth c)
  have hr := fun w => turned7_any (Bl.nth S7 b ^^^ Bl.nth S7 c) w (Bl.xor_lt (hS.nth _) (hS.nth _))
  have hS1 := hS.set b (Bl.rot (Bl.nth S7 b ^^^ Bl.nth S7 c) 25) (Bl.rot_lt _ _ (Bl.xor_lt (hS.nth _) (hS.nth _)) (by decide))
  generalize hq : S7.set b (Bl.rot (Bl.nth S7 b ^^^ Bl.nth S7 c) 25) = S8 at hs hS1
  have HS8 := Lib.hid hq
  clear hq
  refine wp_region_still_tail 10 (by kernel_rfl) (by kernel_rfl) ?_
  simp only [List.take_succ_cons, List.take_zero, List.drop_succ_cons, List.drop_zero]
  change wpStill _ _ v7.drew (fun a' => wpList _ _ _ _ a' v7.drew) _ _
  generalize v7.drew = w2 at *
  repeat still_step
  still_call ((hr _).mono fun e w'' h => ⟨h.1, h.2.symm⟩)
  repeat still_step
  refine wpStill_nil ?_
  change wpList _ _ _ _ _ w2
  have l8 := hS1.1
  have o1 := hoo.own HP.out.1 (by omega)
  have hb0 := HP.out.2.trans (hoo.below (Nat.le_refl _))
  have h8 := Bl.mixL_seq x y (by rw [lS]; exact HC.out.1) (by rw [lS]; exact HC.out.2.1) (by rw [lS]; exact HC.out.2.2.1) (by rw [lS]; exact HC.out.2.2.2) HD.out.1 HD.out.2.1 HD.out.2.2.1 HD.out.2.2.2.1 HD.out.2.2.2.2.1 HD.out.2.2.2.2.2
    HS1.out.symm HS2.out.symm HS3.out.symm HS4.out.symm HS5.out.symm HS6.out.symm HS7.out.symm HS8.out.symm
  have H8 := Lib.hid h8
  clear h8
  go_wp2_with (first | (refine ld t63 rfl rfl rfl hs l8 ?_) | (refine sto t63 rfl rfl rfl rfl o1 rfl l8 ?_))
  refine ret_arr t63 rfl rfl (o1.row _) l8 rfl ⟨?_, below_row hb0 (by omega) _⟩
  rw [← H8.out]
end Go.Proofs.YtaoaebdjinlcnaaDoor
