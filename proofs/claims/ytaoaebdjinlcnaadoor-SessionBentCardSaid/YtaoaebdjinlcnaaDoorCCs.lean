/-
  THE WALK of the closure that does a step, over the variable that it captured.
-/
import Derived.Test.YtaoaebdjinlcnaaDoorCCw
import Derived.StillTailTactics
set_option linter.unusedVariables false
set_option linter.unusedSimpArgs false
set_option maxRecDepth 100000
namespace Go.Proofs.YtaoaebdjinlcnaaDoor.Ci
open Go.RowKit
/-- numbers as cells -/
def vs (k : IntKind) (l : List Nat) : Array Value := (l.map fun (n : Nat) => Value.int k (n : Int)).toArray
theorem vs_size (k : IntKind) (l : List Nat) : (vs k l).size = l.length := by simp [vs]
theorem vs_get (k : IntKind) {l : List Nat} {i : Nat} (h : i < l.length) : (vs k l)[i]? = some (.int k (Ch.nth l i : Nat)) := by
  simp [vs, Ch.nth_get h]
theorem vs_set (k : IntKind) (l : List Nat) (i x : Nat) : (vs k l).setIfInBounds i (.int k (x : Int)) = vs k (l.set i x) := by
  simp [vs, List.map_set]
/-- an array of the call's own -/
def Own (w : World) (g : Nat) (t : TypeId) (cs : Array Value) : Prop := w.heap[g]? = some (.cells cs t (0, 0))
theorem Own.cellv {w : World} {g : Nat} {t : TypeId} {cs : Array Value} (h : Own w g t cs) (i : Nat) : w.cell? ⟨g, i, none⟩ = cs[i]? := by
  unfold Own at h; simp [World.cell?, h]
theorem Own.frozen {w : World} {g : Nat} {t : TypeId} {cs : Array Value} (h : Own w g t cs) (i : Nat) : w.frozen? ⟨g, i, none⟩ = false := by
  unfold Own at h; simp [World.frozen?, h]
theorem Own.new (w : World) (t : TypeId) (cs : Array Value) : Own (w.alloc (.cells cs t)) w.heap.size t cs := by
  unfold Own
  show (w.heap.push _)[w.heap.size]? = _
  simp
theorem Own.setv {w : World} {g : Nat} {t : TypeId} {cs : Array Value} (h : Own w g t cs) (i : Nat) (u : Value) : Own (w.setCell ⟨g, i, none⟩ u) g t (cs.setIfInBounds i u) := by
  unfold Own at h ⊢
  simp [World.setCell, Array.getElem?_modify, h]
theorem Own.drew {w : World} {g : Nat} {t : TypeId} {cs : Array Value} (h : Own w g t cs) : Own w.drew g t cs := h
theorem Own.lt {w : World} {g : Nat} {t : TypeId} {cs : Array Value} (h : Own w g t cs) : g < w.heap.size := by
  unfold Own at h
  rcases Nat.lt_or_ge g w.heap.size with h' | h'
  · exact h'
  · rw [Array.getElem?_eq_none h'] at h; cases h
theorem Own.kept {w w' : World} {g : Nat} {t : TypeId} {cs : Array Value} (h : Own w g t cs) (hb : w'.heap[g]? = w.heap[g]?) : Own w' g t cs := by
  unfold Own; rw [hb]; exact h
theorem Own.alloc {w : World} {g : Nat} {t : TypeId} {cs : Array Value} (h : Own w g t cs) (o : Obj) : Own (w.alloc o) g t cs := h.kept (Below.heap_alloc _ _ _ h.lt)
theorem Own.other {w : World} {g : Nat} {t : TypeId} {cs : Array Value} (h : Own w g t cs) (p : Addr) (u : Value) (hp : g ≠ p.block) : Own (w.setCell p u) g t cs := h.kept (Below.heap_setCell _ _ _ _ hp)
theorem Own.cell {w : World} {g : Nat} {t : TypeId} {k : IntKind} {l : List Nat} (h : Own w g t (vs k l)) {i : Nat} (hi : i < l.length) : w.cell? ⟨g, i, none⟩ = some (.int k (Ch.nth l i : Nat)) := by
  rw [h.cellv, vs_get k hi]
theorem Own.set {w : World} {g : Nat} {t : TypeId} {k : IntKind} {l : List Nat} (h : Own w g t (vs k l)) (i x : Nat) : Own (w.setCell ⟨g, i, none⟩ (.int k (x : Int))) g t (vs k (l.set i x)) := by
  rw [← vs_set]; exact h.setv i _
/-- but for one block the world is as it was -/
structure Only (g : Nat) (w w' : World) : Prop where
  os : w'.os = w.os
  tape : w'.tape = w.tape
  output : w'.output = w.output
  size : w'.heap.size = w.heap.size
  block : ∀ k, k ≠ g → w'.heap[k]? = w.heap[k]?
theorem Only.refl (g : Nat) (w : World) : Only g w w := ⟨rfl, rfl, rfl, rfl, fun _ _ => rfl⟩
theorem Only.trans {g : Nat} {a b c : World} (h : Only g a b) (k : Only g b c) : Only g a c :=
  ⟨k.os.trans h.os, k.tape.trans h.tape, k.output.trans h.output, k.size.trans h.size, fun i hi => (k.block i hi).trans (h.block i hi)⟩
theorem Only.drew {g : Nat} {a w : World} (h : Only g a w) : Only g a w.drew := ⟨h.os, h.tape, h.output, h.size, h.block⟩
theorem Only.set {g : Nat} {a w : World} (h : Only g a w) (i : Nat) (u : Value) : Only g a (w.setCell ⟨g, i, none⟩ u) :=
  h.trans ⟨rfl, rfl, rfl, by simp [World.setCell], fun k hk => Below.heap_setCell _ _ _ _ hk⟩
theorem Only.below {g : Nat} {a w : World} (h : Only g a w) {B : Nat} (hB : B ≤ g) : Below B a w := ⟨h.os, h.tape, h.output, by rw [h.size]; exact Nat.le_refl _, fun k hk => h.block k (by omega)⟩
set_option maxRecDepth 100000 in
set_option maxHeartbeats 2000000 in
theorem cstep_any (S : List Nat) (hS : Ch.Wd S) (g : Nat) (t : TypeId) (a b c d : Nat) (w : World) (ha : a < 16) (hb : b < 16) (hc : c < 16) (hd : d < 16) (hw : Own w g t (vs .u32 S)) :
    Calls Tryd.prog 90 #[.int .i64 a, .int .i64 b, .int .i64 c, .int .i64 d, .pointer (some ⟨g, 0, none⟩)] w fun e w' => e = .returned (.tuple #[]) ∧ Own w' g t (vs .u32 (Ch.step S a b c d)) ∧ Only g w w' := by
  have ia : (a : Int) < 16 := by omega
  have ib : (b : Int) < 16 := by omega
  have ic : (c : Int) < 16 := by omega
  have id : (d : Int) < 16 := by omega
  have ho := Only.refl g w
  go_enter Tryd.func90, Tryd.ntmps90
  go_wp2
  have c1 := hw.drew.cell (i := a) (by rw [hS.1]; exact ha)
  have c2 := hw.drew.cell (i := b) (by rw [hS.1]; exact hb)
  have z1 := hw.drew.frozen a
  have hs := hw.drew.set a (Ch.add (Ch.nth S a) (Ch.nth S b))
  have hoo := ho.drew.set a (.int .u32 ((Ch.add (Ch.nth S a) (Ch.nth S b)) : Nat))
  have e1 : IntKind.u32.wrap ((Ch.nth S a : Nat) + (Ch.nth S b : Nat) : Int) = ((Ch.add (Ch.nth S a) (Ch.nth S b)) : Nat) := rfl
  have hS1 := hS.set a (Ch.add (Ch.nth S a) (Ch.nth S b)) (Ch.add_lt _ _)
  generalize hq : S.set a (Ch.add (Ch.nth S a) (Ch.nth S b)) = S1 at hs hS1
  have HS1 := Lib.hid hq
  clear hq
  refine wp_region_still_tail 8 (by kernel_rfl) (by kernel_rfl) ?_
  simp only [List.take_succ_cons, List.take_zero, List.drop_succ_cons, List.drop_zero]
  change wpStill _ _ w.drew (fun a' => wpList _ _ _ _ a' w.drew) _ _
  generalize w.drew = w2 at *
  repeat still_step
  refine wpStill_nil ?_
  change wpList _ _ _ _ _ w2
  go_wp2
  clear hw ho hS c1 c2 z1 e1
  have hw := hs
  have ho := hoo
  have hS := hS1
  clear hs hoo hS1
  generalize w2.setCell ⟨g, a, none⟩ (.int .u32 ((Ch.add (Ch.nth S a) (Ch.nth S b)) : Nat)) = v1 at *
  clear  w2
  have c1 := hw.drew.cell (i := d) (by rw [hS.1]; exact hd)
  have c2 := hw.drew.cell (i := a) (by rw [hS.1]; exact ha)
  have z1 := hw.drew.frozen d
  have hs := hw.drew.set d (Ch.rot (Ch.nth S1 d ^^^ Ch.nth S1 a) 16)
  have hoo := ho.drew.set d (.int .u32 ((Ch.rot (Ch.nth S1 d ^^^ Ch.nth S1 a) 16) : Nat))
  have e1 := u32_xor_nat _ _ (hS.nth d) (hS.nth a)
  have hr := fun w => rot16_any (Ch.nth S1 d ^^^ Ch.nth S1 a) w (Ch.xor_lt (hS.nth _) (hS.nth _))
  have hS1 := hS.set d (Ch.rot (Ch.nth S1 d ^^^ Ch.nth S1 a) 16) (Ch.rot_lt _ _ (Ch.xor_lt (hS.nth _) (hS.nth _)) (by decide))
  generalize hq : S1.set d (Ch.rot (Ch.nth S1 d ^^^ Ch.nth S1 a) 16) = S2 at hs hS1
  have HS2 := Lib.hid hq
  clear hq
  refine wp_region_still_tail 10 (by kernel_rfl) (by kernel_rfl) ?_
  simp only [List.take_succ_cons, List.take_zero, List.drop_succ_cons, List.drop_zero]
  change wpStill _ _ v1.drew (fun a' => wpList _ _ _ _ a' v1.drew) _ _
  generalize v1.drew = w2 at *
  repeat still_step
  still_call ((hr _).mono fun e w'' h => ⟨h.1, h.2.symm⟩)
  repeat still_step
  refine wpStill_nil ?_
  change wpList _ _ _ _ _ w2
  go_wp2
  clear hw ho hS c1 c2 z1 e1 hr
  have hw := hs
  have ho := hoo
  have hS := hS1
  clear hs hoo hS1
  generalize w2.setCell ⟨g, d, none⟩ (.int .u32 ((Ch.rot (Ch.nth S1 d ^^^ Ch.nth S1 a) 16) : Nat)) = v2 at *
  clear v1 w2
  have c1 := hw.drew.cell (i := c) (by rw [hS.1]; exact hc)
  have c2 := hw.drew.cell (i := d) (by rw [hS.1]; exact hd)
  have z1 := hw.drew.frozen c
  have hs := hw.drew.set c (Ch.add (Ch.nth S2 c) (Ch.nth S2 d))
  have hoo := ho.drew.set c (.int .u32 ((Ch.add (Ch.nth S2 c) (Ch.nth S2 d)) : Nat))
  have e1 : IntKind.u32.wrap ((Ch.nth S2 c : Nat) + (Ch.nth S2 d : Nat) : Int) = ((Ch.add (Ch.nth S2 c) (Ch.nth S2 d)) : Nat) := rfl
  have hS1 := hS.set c (Ch.add (Ch.nth S2 c) (Ch.nth S2 d)) (Ch.add_lt _ _)
  generalize hq : S2.set c (Ch.add (Ch.nth S2 c) (Ch.nth S2 d)) = S3 at hs hS1
  have HS3 := Lib.hid hq
  clear hq
  refine wp_region_still_tail 8 (by kernel_rfl) (by kernel_rfl) ?_
  simp only [List.take_succ_cons, List.take_zero, List.drop_succ_cons, List.drop_zero]
  change wpStill _ _ v2.drew (fun a' => wpList _ _ _ _ a' v2.drew) _ _
  generalize v2.drew = w2 at *
  repeat still_step
  refine wpStill_nil ?_
  change wpList _ _ _ _ _ w2
  go_wp2
  clear hw ho hS c1 c2 z1 e1
  have hw := hs
  have ho := hoo
  have hS := hS1
  clear hs hoo hS1
  generalize w2.setCell ⟨g, c, none⟩ (.int .u32 ((Ch.add (Ch.nth S2 c) (Ch.nth S2 d)) : Nat)) = v3 at *
  clear v2 w2
  have c1 := hw.drew.cell (i := b) (by rw [hS.1]; exact hb)
  have c2 := hw.drew.cell (i := c) (by rw [hS.1]; exact hc)
  have z1 := hw.drew.frozen b
  have hs := hw.drew.set b (Ch.rot (Ch.nth S3 b ^^^ Ch.nth S3 c) 12)
  have hoo := ho.drew.set b (.int .u32 ((Ch.rot (Ch.nth S3 b ^^^ Ch.nth S3 c) 12) : Nat))
  have e1 := u32_xor_nat _ _ (hS.nth b) (hS.nth c)
  have hr := fun w => rot12_any (Ch.nth S3 b ^^^ Ch.nth S3 c) w (Ch.xor_lt (hS.nth _) (hS.nth _))
  have hS1 := hS.set b (Ch.rot (Ch.nth S3 b ^^^ Ch.nth S3 c) 12) (Ch.rot_lt _ _ (Ch.xor_lt (hS.nth _) (hS.nth _)) (by decide))
  generalize hq : S3.set b (Ch.rot (Ch.nth S3 b ^^^ Ch.nth S3 c) 12) = S4 at hs hS1
  have HS4 := Lib.hid hq
  clear hq
  refine wp_region_still_tail 10 (by kernel_rfl) (by kernel_rfl) ?_
  simp only [List.take_succ_cons, List.take_zero, List.drop_succ_cons, List.drop_zero]
  change wpStill _ _ v3.drew (fun a' => wpList _ _ _ _ a' v3.drew) _ _
  generalize v3.drew = w2 at *
  repeat still_step
  still_call ((hr _).mono fun e w'' h => ⟨h.1, h.2.symm⟩)
  repeat still_step
  refine wpStill_nil ?_
  change wpList _ _ _ _ _ w2
  go_wp2
  clear hw ho hS c1 c2 z1 e1 hr
  have hw := hs
  have ho := hoo
  have hS := hS1
  clear hs hoo hS1
  generalize w2.setCell ⟨g, b, none⟩ (.int .u32 ((Ch.rot (Ch.nth S3 b ^^^ Ch.nth S3 c) 12) : Nat)) = v4 at *
  clear v3 w2
  have c1 := hw.drew.cell (i := a) (by rw [hS.1]; exact ha)
  have c2 := hw.drew.cell (i := b) (by rw [hS.1]; exact hb)
  have z1 := hw.drew.frozen a
  have hs := hw.drew.set a (Ch.add (Ch.nth S4 a) (Ch.nth S4 b))
  have hoo := ho.drew.set a (.int .u32 ((Ch.add (Ch.nth S4 a) (Ch.nth S4 b)) : Nat))
  have e1 : IntKind.u32.wrap ((Ch.nth S4 a : Nat) + (Ch.nth S4 b : Nat) : Int) = ((Ch.add (Ch.nth S4 a) (Ch.nth S4 b)) : Nat) := rfl
  have hS1 := hS.set a (Ch.add (Ch.nth S4 a) (Ch.nth S4 b)) (Ch.add_lt _ _)
  generalize hq : S4.set a (Ch.add (Ch.nth S4 a) (Ch.nth S4 b)) = S5 at hs hS1
  have HS5 := Lib.hid hq
  clear hq
  refine wp_region_still_tail 8 (by kernel_rfl) (by kernel_rfl) ?_
  simp only [List.take_succ_cons, List.take_zero, List.drop_succ_cons, List.drop_zero]
  change wpStill _ _ v4.drew (fun a' => wpList _ _ _ _ a' v4.drew) _ _
  generalize v4.drew = w2 at *
  repeat still_step
  refine wpStill_nil ?_
  change wpList _ _ _ _ _ w2
  go_wp2
  clear hw ho hS c1 c2 z1 e1
  have hw := hs
  have ho := hoo
  have hS := hS1
  clear hs hoo hS1
  generalize w2.setCell ⟨g, a, none⟩ (.int .u32 ((Ch.add (Ch.nth S4 a) (Ch.nth S4 b)) : Nat)) = v5 at *
  clear v4 w2
  have c1 := hw.drew.cell (i := d) (by rw [hS.1]; exact hd)
  have c2 := hw.drew.cell (i := a) (by rw [hS.1]; exact ha)
  have z1 := hw.drew.frozen d
  have hs := hw.drew.set d (Ch.rot (Ch.nth S5 d ^^^ Ch.nth S5 a) 8)
  have hoo := ho.drew.set d (.int .u32 ((Ch.rot (Ch.nth S5 d ^^^ Ch.nth S5 a) 8) : Nat))
  have e1 := u32_xor_nat _ _ (hS.nth d) (hS.nth a)
  have hr := fun w => rot8_any (Ch.nth S5 d ^^^ Ch.nth S5 a) w (Ch.xor_lt (hS.nth _) (hS.nth _))
  have hS1 := hS.set d (Ch.rot (Ch.nth S5 d ^^^ Ch.nth S5 a) 8) (Ch.rot_lt _ _ (Ch.xor_lt (hS.nth _) (hS.nth _)) (by decide))
  generalize hq : S5.set d (Ch.rot (Ch.nth S5 d ^^^ Ch.nth S5 a) 8) = S6 at hs hS1
  have HS6 := Lib.hid hq
  clear hq
  refine wp_region_still_tail 10 (by kernel_rfl) (by kernel_rfl) ?_
  simp only [List.take_succ_cons, List.take_zero, List.drop_succ_cons, List.drop_zero]
  change wpStill _ _ v5.drew (fun a' => wpList _ _ _ _ a' v5.drew) _ _
  generalize v5.drew = w2 at *
  repeat still_step
  still_call ((hr _).mono fun e w'' h => ⟨h.1, h.2.symm⟩)
  repeat still_step
  refine wpStill_nil ?_
  change wpList _ _ _ _ _ w2
  go_wp2
  clear hw ho hS c1 c2 z1 e1 hr
  have hw := hs
  have ho := hoo
  have hS := hS1
  clear hs hoo hS1
  generalize w2.setCell ⟨g, d, none⟩ (.int .u32 ((Ch.rot (Ch.nth S5 d ^^^ Ch.nth S5 a) 8) : Nat)) = v6 at *
  clear v5 w2
  have c1 := hw.drew.cell (i := c) (by rw [hS.1]; exact hc)
  have c2 := hw.drew.cell (i := d) (by rw [hS.1]; exact hd)
  have z1 := hw.drew.frozen c
  have hs := hw.drew.set c (Ch.add (Ch.nth S6 c) (Ch.nth S6 d))
  have hoo := ho.drew.set c (.int .u32 ((Ch.add (Ch.nth S6 c) (Ch.nth S6 d)) : Nat))
  have e1 : IntKind.u32.wrap ((Ch.nth S6 c : Nat) + (Ch.nth S6 d : Nat) : Int) = ((Ch.add (Ch.nth S6 c) (Ch.nth S6 d)) : Nat) := rfl
  have hS1 := hS.set c (Ch.add (Ch.nth S6 c) (Ch.nth S6 d)) (Ch.add_lt _ _)
  generalize hq : S6.set c (Ch.add (Ch.nth S6 c) (Ch.nth S6 d)) = S7 at hs hS1
  have HS7 := Lib.hid hq
  clear hq
  refine wp_region_still_tail 8 (by kernel_rfl) (by kernel_rfl) ?_
  simp only [List.take_succ_cons, List.take_zero, List.drop_succ_cons, List.drop_zero]
  change wpStill _ _ v6.drew (fun a' => wpList _ _ _ _ a' v6.drew) _ _
  generalize v6.drew = w2 at *
  repeat still_step
  refine wpStill_nil ?_
  change wpList _ _ _ _ _ w2
  go_wp2
  clear hw ho hS c1 c2 z1 e1
  have hw := hs
  have ho := hoo
  have hS := hS1
  clear hs hoo hS1
  generalize w2.setCell ⟨g, c, none⟩ (.int .u32 ((Ch.add (Ch.nth S6 c) (Ch.nth S6 d)) : Nat)) = v7 at *
  clear v6 w2
  have c1 := hw.drew.cell (i := b) (by rw [hS.1]; exact hb)
  have c2 := hw.drew.cell (i := c) (by rw [hS.1]; exact hc)
  have z1 := hw.drew.frozen b
  have hs := hw.drew.set b (Ch.rot (Ch.nth S7 b ^^^ Ch.nth S7 c) 7)
  have hoo := ho.drew.set b (.int .u32 ((Ch.rot (Ch.nth S7 b ^^^ Ch.nth S7 c) 7) : Nat))
  have e1 := u32_xor_nat _ _ (hS.nth b) (hS.nth c)
  have hr := fun w => rot7_any (Ch.nth S7 b ^^^ Ch.nth S7 c) w (Ch.xor_lt (hS.nth _) (hS.nth _))
  have hS1 := hS.set b (Ch.rot (Ch.nth S7 b ^^^ Ch.nth S7 c) 7) (Ch.rot_lt _ _ (Ch.xor_lt (hS.nth _) (hS.nth _)) (by decide))
  generalize hq : S7.set b (Ch.rot (Ch.nth S7 b ^^^ Ch.nth S7 c) 7) = S8 at hs hS1
  have HS8 := Lib.hid hq
  clear hq
  refine wp_region_still_tail 10 (by kernel_rfl) (by kernel_rfl) ?_
  simp only [List.take_succ_cons, List.take_zero, List.drop_succ_cons, List.drop_zero]
  change wpStill _ _ v7.drew (fun a' => wpList _ _ _ _ a' v7.drew) _ _
  generalize v7.drew = w2 at *
  repeat still_step
  still_call ((hr _).mono fun e w'' h => ⟨h.1, h.2.symm⟩)
  repeat still_step
  refine wpStill_nil ?_
  change wpList _ _ _ _ _ w2
  go_wp2
  go_end0
  have hst : S8 = Ch.step S a b c d := by
    simp only [Ch.step, Ch.half]
    rw [HS1.out, HS2.out, HS3.out, HS4.out, HS5.out, HS6.out, HS7.out, HS8.out]
  rw [hst] at hs
  exact ⟨rfl, hs, hoo⟩
end Go.Proofs.YtaoaebdjinlcnaaDoor.Ci
