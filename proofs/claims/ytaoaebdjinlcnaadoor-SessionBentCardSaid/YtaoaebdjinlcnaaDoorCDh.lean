/-
  THE WALKS of a step and its halves, of the document's answer.
-/
import Derived.Test.YtaoaebdjinlcnaaDoorCCb
set_option linter.unusedVariables false
set_option linter.unusedSimpArgs false
set_option maxRecDepth 100000
namespace Go.Proofs.YtaoaebdjinlcnaaDoor.Ci
open Go.RowKit
set_option maxRecDepth 100000 in
set_option maxHeartbeats 2000000 in
theorem rhalf_any (S : List Nat) (hS : Ch.Wd S) (a b d k u : Nat) (w : World) (ha : a < 16) (hb : b < 16) (hd : d < 16) (hk : k ≤ 16) (hu : u = 2 ^ k) :
    Calls Tryd.prog 92 #[.agg (vs .u64 S), .int .i64 a, .int .i64 b, .int .i64 d, .int .u64 u] w fun e w' => e = .returned (.agg (vs .u64 (Ch.half S a b d k))) ∧ Below w.heap.size w w' := by
  have ia : (a : Int) < 16 := by omega
  have ib : (b : Int) < 16 := by omega
  have id : (d : Int) < 16 := by omega
  have hu2 : u ≤ 65536 := by
    have : 2 ^ k ≤ 2 ^ 16 := Nat.pow_le_pow_right (by decide) hk
    omega
  have lS := hS.1
  obtain ⟨W0, hW0⟩ : ∃ W0, W0 = ((w.alloc (Obj.cells (vs .u64 S) 102)).alloc (Obj.cells (vs .u64 (List.replicate 16 0)) 102)) := ⟨_, rfl⟩
  have o0 : Own W0 w.heap.size 102 (vs .u64 S) := by rw [hW0]; exact (Own.new' _ _ _ rfl).alloc _
  have o1 : Own W0 (w.heap.size + 1) 102 (vs .u64 (List.replicate 16 0)) := by rw [hW0]; exact Own.new' _ _ _ (by simp)
  have hb0 : Below w.heap.size w W0 := by rw [hW0]; exact ((Below.refl _ w).alloc (by simp) _).alloc (by simp) _
  have HW0 := Lib.hid hW0
  have HU := Lib.hid hu
  clear hW0 hu
  go_enter Tryd.func92, Tryd.ntmps92
  go_wp2_with fail
  change Code.wp _ _ _ _ ((w.alloc (Obj.cells (vs .u64 S) 102)).alloc (Obj.cells (vs .u64 (List.replicate 16 0)) 102))
  rw [← HW0.out]
  clear HW0
  have c1 := o0.drew.cell (i := a) (by omega)
  have c2 := o0.drew.cell (i := b) (by omega)
  have z1 := o0.drew.frozen a
  have hs := o0.drew.set a (Ch.add (Ch.nth S a) (Ch.nth S b))
  have hn := o1.drew.other ⟨w.heap.size, a, none⟩ (.int .u64 (Ch.add (Ch.nth S a) (Ch.nth S b) : Nat)) (by show w.heap.size + 1 ≠ w.heap.size; omega)
  have hbb := hb0.drew.setCell (p := ⟨w.heap.size, a, none⟩) (Nat.le_refl _) (.int .u64 (Ch.add (Ch.nth S a) (Ch.nth S b) : Nat))
  have hS1 := hS.set a (Ch.add (Ch.nth S a) (Ch.nth S b)) (Ch.add_lt _ _)
  have hr := fun w => add_any (Ch.nth S a) (Ch.nth S b) w (hS.nth _) (hS.nth _)
  generalize hq1 : S.set a (Ch.add (Ch.nth S a) (Ch.nth S b)) = S1 at hs hS1
  have HS1 := Lib.hid hq1
  clear hq1
  refine wp_region_still_tail 9 (by kernel_rfl) (by kernel_rfl) ?_
  simp only [List.take_succ_cons, List.take_zero, List.drop_succ_cons, List.drop_zero]
  change wpStill _ _ W0.drew (fun a' => wpList _ _ _ _ a' W0.drew) _ _
  generalize W0.drew = w2 at *
  repeat still_step
  still_call ((hr _).mono fun e w'' h => ⟨h.1, h.2.symm⟩)
  repeat still_step
  refine wpStill_nil ?_
  change wpList _ _ _ _ _ w2
  go_wp2
  clear o0 o1 hb0 c1 c2 z1 hr hS
  generalize w2.setCell ⟨w.heap.size, a, none⟩ (.int .u64 (Ch.add (Ch.nth S a) (Ch.nth S b) : Nat)) = v1 at *
  clear w2
  have c1 := hs.drew.cell (i := d) (by have := hS1.1; omega)
  have c2 := hs.drew.cell (i := a) (by have := hS1.1; omega)
  have z1 := hs.drew.frozen d
  have hs2 := hs.drew.set d (Ch.rot (Ch.nth S1 d ^^^ Ch.nth S1 a) k)
  have hn2 := hn.drew.other ⟨w.heap.size, d, none⟩ (.int .u64 (Ch.rot (Ch.nth S1 d ^^^ Ch.nth S1 a) k : Nat)) (by show w.heap.size + 1 ≠ w.heap.size; omega)
  have hb2 := hbb.drew.setCell (p := ⟨w.heap.size, d, none⟩) (Nat.le_refl _) (.int .u64 (Ch.rot (Ch.nth S1 d ^^^ Ch.nth S1 a) k : Nat))
  have hr := fun w => xor_any (Ch.nth S1 d) (Ch.nth S1 a) w (hS1.nth _) (hS1.nth _)
  have ht := fun w => turn_any (Ch.nth S1 d ^^^ Ch.nth S1 a) u w (Ch.xor_lt (hS1.nth _) (hS1.nth _)) hu2
  have hrot : (Ch.nth S1 d ^^^ Ch.nth S1 a) * u % 4294967296 + (Ch.nth S1 d ^^^ Ch.nth S1 a) * u / 4294967296 = Ch.rot (Ch.nth S1 d ^^^ Ch.nth S1 a) k := by rw [HU.out]; rfl
  rw [hrot] at ht
  have lS2 : (S1.set d (Ch.rot (Ch.nth S1 d ^^^ Ch.nth S1 a) k)).length = 16 := by rw [List.length_set]; exact hS1.1
  generalize hq2 : S1.set d (Ch.rot (Ch.nth S1 d ^^^ Ch.nth S1 a) k) = S2 at hs2 lS2
  have HS2 := Lib.hid hq2
  clear hq2 hrot
  refine wp_region_still_tail 11 (by kernel_rfl) (by kernel_rfl) ?_
  simp only [List.take_succ_cons, List.take_zero, List.drop_succ_cons, List.drop_zero]
  change wpStill _ _ v1.drew (fun a' => wpList _ _ _ _ a' v1.drew) _ _
  generalize v1.drew = w2 at *
  repeat still_step
  still_call ((hr _).mono fun e w'' h => ⟨h.1, h.2.symm⟩)
  repeat still_step
  still_call ((ht _).mono fun e w'' h => ⟨h.1, h.2.symm⟩)
  repeat still_step
  refine wpStill_nil ?_
  change wpList _ _ _ _ _ w2
  clear hs hn hbb hr ht
  go_wp2_with (first | (refine ld t43 rfl rfl rfl hs2 lS2 ?_) | (refine sto t43 rfl rfl rfl rfl hn2 rfl lS2 ?_))
  refine ret_arr t43 rfl rfl (hn2.row _) lS2 rfl ⟨?_, below_row hb2 (by omega) _⟩
  simp only [Ch.half]
  rw [HS1.out, HS2.out]
set_option maxRecDepth 100000 in
set_option maxHeartbeats 2000000 in
theorem rstep_any (S : List Nat) (hS : Ch.Wd S) (a b c d : Nat) (w : World) (ha : a < 16) (hb : b < 16) (hc : c < 16) (hd : d < 16) :
    Calls Tryd.prog 79 #[.agg (vs .u64 S), .int .i64 a, .int .i64 b, .int .i64 c, .int .i64 d] w fun e w' => e = .returned (.agg (vs .u64 (Ch.step S a b c d))) ∧ Below w.heap.size w w' := by
  have lS := hS.1
  obtain ⟨W0, hW0⟩ : ∃ W0, W0 = ((w.alloc (Obj.cells (vs .u64 S) 102)).alloc (Obj.cells (vs .u64 (List.replicate 16 0)) 102)) := ⟨_, rfl⟩
  have o0 : Own W0 w.heap.size 102 (vs .u64 S) := by rw [hW0]; exact (Own.new' _ _ _ rfl).alloc _
  have o1 : Own W0 (w.heap.size + 1) 102 (vs .u64 (List.replicate 16 0)) := by rw [hW0]; exact Own.new' _ _ _ (by simp)
  have hb0 : Below w.heap.size w W0 := by rw [hW0]; exact ((Below.refl _ w).alloc (by simp) _).alloc (by simp) _
  have HW0 := Lib.hid hW0
  clear hW0
  go_enter Tryd.func79, Tryd.ntmps79
  go_wp2_with (refine ld t43 rfl rfl rfl (by have := o0; rw [HW0.out] at this; exact this) lS ?_)
  change Calls _ _ _ ((w.alloc (Obj.cells (vs .u64 S) 102)).alloc (Obj.cells (vs .u64 (List.replicate 16 0)) 102)) _
  rw [← HW0.out]
  clear HW0
  refine (rhalf_any S hS a b d 16 65536 _ ha hb hd (by decide) rfl).mono ?_
  rintro e w1 ⟨rfl, hx⟩
  have p0 := Below.own hx o0 o0.lt
  have p1 := Below.own hx o1 o1.lt
  have pb := hb0.trans (hx.mono hb0.size)
  replace hS := hS.half a b d 16 (by decide)
  have hl0 := lS
  clear hx o0 o1 hb0 lS
  generalize hq : Ch.half S a b d 16 = S1 at *
  have HS1 := Lib.hid hq
  have lS := hS.1
  clear hq
  have o0 := p0.row (vs .u64 S1)
  have o1 := p1.rowOther w.heap.size (vs .u64 S1) (by omega)
  have hb0 := below_row pb (Nat.le_refl _) (vs .u64 S1)
  go_wp2_with (first | (refine ld t43 rfl rfl rfl o0 lS ?_) | (refine sto t43 rfl rfl rfl rfl p0 hl0 lS ?_))
  clear p0 p1 pb
  refine (rhalf_any S1 hS c d b 12 4096 _ hc hd hb (by decide) rfl).mono ?_
  rintro e w2 ⟨rfl, hx⟩
  have p0 := Below.own hx o0 o0.lt
  have p1 := Below.own hx o1 o1.lt
  have pb := hb0.trans (hx.mono hb0.size)
  replace hS := hS.half c d b 12 (by decide)
  have hl0 := lS
  clear hx o0 o1 hb0 lS
  generalize hq : Ch.half S1 c d b 12 = S2 at *
  have HS2 := Lib.hid hq
  have lS := hS.1
  clear hq
  have o0 := p0.row (vs .u64 S2)
  have o1 := p1.rowOther w.heap.size (vs .u64 S2) (by omega)
  have hb0 := below_row pb (Nat.le_refl _) (vs .u64 S2)
  go_wp2_with (first | (refine ld t43 rfl rfl rfl o0 lS ?_) | (refine sto t43 rfl rfl rfl rfl p0 hl0 lS ?_))
  clear p0 p1 pb
  refine (rhalf_any S2 hS a b d 8 256 _ ha hb hd (by decide) rfl).mono ?_
  rintro e w3 ⟨rfl, hx⟩
  have p0 := Below.own hx o0 o0.lt
  have p1 := Below.own hx o1 o1.lt
  have pb := hb0.trans (hx.mono hb0.size)
  replace hS := hS.half a b d 8 (by decide)
  have hl0 := lS
  clear hx o0 o1 hb0 lS
  generalize hq : Ch.half S2 a b d 8 = S3 at *
  have HS3 := Lib.hid hq
  have lS := hS.1
  clear hq
  have o0 := p0.row (vs .u64 S3)
  have o1 := p1.rowOther w.heap.size (vs .u64 S3) (by omega)
  have hb0 := below_row pb (Nat.le_refl _) (vs .u64 S3)
  go_wp2_with (first | (refine ld t43 rfl rfl rfl o0 lS ?_) | (refine sto t43 rfl rfl rfl rfl p0 hl0 lS ?_))
  clear p0 p1 pb
  refine (rhalf_any S3 hS c d b 7 128 _ hc hd hb (by decide) rfl).mono ?_
  rintro e w4 ⟨rfl, hx⟩
  have p0 := Below.own hx o0 o0.lt
  have p1 := Below.own hx o1 o1.lt
  have pb := hb0.trans (hx.mono hb0.size)
  replace hS := hS.half c d b 7 (by decide)
  have hl0 := lS
  clear hx o0 o1 hb0 lS
  generalize hq : Ch.half S3 c d b 7 = S4 at *
  have HS4 := Lib.hid hq
  have lS := hS.1
  clear hq
  go_wp2_with (refine sto t43 rfl rfl rfl rfl p1 rfl lS ?_)
  refine ret_arr t43 rfl rfl (p1.row _) lS rfl ⟨?_, below_row pb (by omega) _⟩
  simp only [Ch.step]
  rw [HS1.out, HS2.out, HS3.out, HS4.out]
end Go.Proofs.YtaoaebdjinlcnaaDoor.Ci
