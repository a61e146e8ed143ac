/-
  THE WALKS of a part's weights: an element's products with all others, and by how much each row counts.
-/
import Derived.Test.YtgfnpemonpebpaaHd
import Derived.Test.YtgfnpemonpebpaaPm
import Derived.Test.YtgfnpemonpebpaaFr
namespace Go.Proofs.Ytgfnpemonpebpaa
open Go.RowKit
set_option linter.unusedVariables false
set_option linter.unusedSimpArgs false
/-- an element's products -/
def muls (X : Nat) : List Nat := (List.range 256).map fun i => Gf.mul X i
theorem muls_length (X : Nat) : (muls X).length = 256 := by simp [muls]
theorem muls_nth (X : Nat) {i : Nat} (h : i < 256) : Gf.nth (muls X) i = Gf.mul X i := by rw [Gf.nth_eq]; simp [muls, h]
theorem z63 : ZT 63 256 := fun w => by kernel_rfl
theorem t63 : AggT 63 256 := ⟨⟨_, Try.underlying63, by kernel_rfl, rfl⟩, by kernel_rfl⟩
theorem z34 : ZT 34 3 := fun w => by kernel_rfl
theorem t34 : AggT 34 3 := ⟨⟨_, Try.underlying34, by kernel_rfl, rfl⟩, by kernel_rfl⟩
theorem fil_zs (n : Nat) (f : Nat → Nat) : fil n f 0 = zs n := fil_zero n f
set_option maxRecDepth 100000 in
set_option maxHeartbeats 2000000 in
theorem mult_any (X : Nat) (hX : X < 256) (w : World) :
    Calls Try.prog 32 #[.int .u8 (X : Int)] w fun e w' => e = .returned (.agg (vs (muls X))) ∧ Below w.heap.size w w' := by
  have z1 : (w.alloc (Obj.cells (vs (zs 256)) 63)).heap.size = w.heap.size + 1 := Array.size_push ..
  have o0 := (Own.new w 63 (vs (zs 256))).alloc (Obj.cells (vs (zs 256)) 63)
  have o1 := Own.new' (w.alloc (Obj.cells (vs (zs 256)) 63)) 63 (vs (zs 256)) z1.symm
  have bW := ((Below.refl w.heap.size w).alloc (Nat.le_refl _) (Obj.cells (vs (zs 256)) 63)).alloc (by omega) (Obj.cells (vs (zs 256)) 63)
  clear z1
  go_enter Try.func32, Try.ntmps32
  go_wp2_with (refine alz z63 rfl rfl ?_)
  generalize hw3 : (w.alloc (Obj.cells (vs (zs 256)) 63)).alloc (Obj.cells (vs (zs 256)) 63) = w3 at *
  have HW3 := Lib.hid hw3
  clear hw3
  generalize hg : w.heap.size = g at *
  have HG := Lib.hid hg
  clear hg
  rw [← fil_zs 256 (fun i => Gf.mul X i)] at o1
  go_loopw [5] (fun i wr => ∃ k : Nat, k ≤ 256 ∧ i = .int .i64 k ∧ Own wr (g + 1) 63 (vs (fil 256 (fun i => Gf.mul X i) k)) ∧ Below (g + 1) w3 wr) (fun i _ => 256 - (intOf i).toNat)
  case atStart => exact ⟨0, by omega, rfl, o1, Below.refl _ _⟩
  case round =>
    obtain ⟨k, hk, rfl, oS, hb⟩ := hrel
    generalize wr = wo at *
    by_cases hlt : k < 256
    · have i0 : (k : Int) < 256 := by omega
      have e1 : IntKind.u8.wrap (k : Int) = (k : Int) := by rw [IntKind.wrap_u8]; omega
      have f1 := oS.frozen k
      have c1 := oS.cellb (i := k) (by rw [fil_length]; omega)
      go_wp2_with (go_at_call 25; refine (mul_any _ _ _ (by omega) (by omega)).mono ?_; rintro e w' ⟨rfl, rfl⟩)
      go_roundw
      case rel => exact ⟨k + 1, by omega, by go_num, (by
        have h := oS.setb k (Gf.mul X k)
        rw [show (fil 256 (fun i => Gf.mul X i) k).set k (Gf.mul X k) = fil 256 (fun i => Gf.mul X i) (k + 1) from fil_set _ _ _ hlt] at h
        exact h), hb.setCell (Nat.le_refl _) _⟩
      case measure => first | (simp [intOf]; done) | (simp [intOf]; omega)
    · obtain rfl : k = 256 := by omega
      have rS := oS.rg
      go_wp2_with (first | (refine ld t63 rfl rfl rfl rS (by rw [fil_length]) ?_) | (refine sto t63 rfl rfl rfl rfl (o0.belowB hb (by omega)) (zs_length _) (by rw [fil_length]) ?_))
      refine res_agg t63 rfl rfl ((o0.belowB hb (by omega)).row _) (by rw [fil_length]) rfl ⟨by rw [fil_all]; rfl, ?_⟩
      rw [HG.out]
      exact below_row (bW.trans (hb.mono (by omega))) (by omega) _
/-- the points' values: 1 at one, 0 at the others -/
def unit (i : Nat) : List Nat := (zs 3).set i 1
theorem unit_length (i : Nat) : (unit i).length = 3 := by simp [unit, zs]
theorem unit_bytes (i : Nat) : Gf.Bytes (unit i) := fun x hx => by
  rcases List.mem_or_eq_of_mem_set hx with h | h
  · have := List.eq_of_mem_replicate h; omega
  · omega
/-- by how much each row counts -/
def wts (a b c x : Nat) : List Nat := (List.range 3).map fun i => Gf.atk [a, b, c] (unit i) x 3
theorem wts_length (a b c x : Nat) : (wts a b c x).length = 3 := by simp [wts]
theorem wts_bytes (a b c x : Nat) : Gf.Bytes (wts a b c x) := fun y hy => by
  simp only [wts, List.mem_map, List.mem_range] at hy
  obtain ⟨i, _, rfl⟩ := hy
  exact Gf.atk_lt (unit_bytes i) x 3
set_option maxRecDepth 100000 in
set_option maxHeartbeats 2000000 in
theorem weights_any (a b c x : Nat) (ha : a < 256) (hb : b < 256) (hc : c < 256) (hx : x < 256) (h12 : a ≠ b) (h13 : a ≠ c) (h23 : b ≠ c) (w : World) :
    Calls Try.prog 31 #[.agg (vs [a, b, c]), .int .u8 (x : Int)] w fun e w' => e = .returned (.agg (vs (wts a b c x))) ∧ Below w.heap.size w w' := by
  have hbt := Sx.three_bytes ha hb hc
  have hd := Sx.dup3_ne h12 h13 h23
  have hAt : ∀ i e, AtIs [a, b, c] (unit i) x e → e = .returned (.tuple #[.int .u8 (Gf.atk [a, b, c] (unit i) x 3 : Nat), .bool true]) := fun i e h => by
    unfold AtIs at h
    rw [if_pos ⟨by rw [unit_length]; rfl, hd⟩] at h
    exact h
  obtain ⟨L, hL⟩ : ∃ L, L = [a, b, c] := ⟨_, rfl⟩
  have lL : L.length = 3 := by rw [hL]; rfl
  have HF : Hid (wts a b c x = (List.range 3).map fun i => Gf.atk L (unit i) x 3) := Lib.hid (by rw [hL]; rfl)
  rw [← hL] at hbt hAt ⊢
  have HA := Lib.hid hAt
  clear hL hd ha hb hc h12 h13 h23 hAt
  have z1 : (w.alloc (Obj.cells (vs L) 34)).heap.size = w.heap.size + 1 := Array.size_push ..
  have z2 : ((w.alloc (Obj.cells (vs L) 34)).alloc (Obj.cells (vs (zs 3)) 34)).heap.size = w.heap.size + 2 := by rw [show ((w.alloc (Obj.cells (vs L) 34)).alloc (Obj.cells (vs (zs 3)) 34)).heap.size = (w.alloc (Obj.cells (vs L) 34)).heap.size + 1 from Array.size_push .., z1]
  have o0 := ((Own.new w 34 (vs L)).alloc (Obj.cells (vs (zs 3)) 34)).alloc (Obj.cells (vs (zs 3)) 34)
  have o1 := (Own.new' (w.alloc (Obj.cells (vs L) 34)) 34 (vs (zs 3)) z1.symm).alloc (Obj.cells (vs (zs 3)) 34)
  have o2 := Own.new' ((w.alloc (Obj.cells (vs L) 34)).alloc (Obj.cells (vs (zs 3)) 34)) 34 (vs (zs 3)) z2.symm
  have bW := (((Below.refl w.heap.size w).alloc (Nat.le_refl _) (Obj.cells (vs L) 34)).alloc (by omega) (Obj.cells (vs (zs 3)) 34)).alloc (by omega) (Obj.cells (vs (zs 3)) 34)
  clear z1 z2
  go_enter Try.func31, Try.ntmps31
  go_wp2_with (refine alz z34 rfl rfl ?_)
  generalize hw3 : ((w.alloc (Obj.cells (vs L) 34)).alloc (Obj.cells (vs (zs 3)) 34)).alloc (Obj.cells (vs (zs 3)) 34) = w3 at *
  have HW3 := Lib.hid hw3
  clear hw3
  generalize hg : w.heap.size = g at *
  have HG := Lib.hid hg
  clear hg
  rw [← fil_zs 3 (fun i => Gf.atk L (unit i) x 3)] at o2
  go_loopw [8] (fun i wr => ∃ k : Nat, k ≤ 3 ∧ i = .int .i64 k ∧ Own wr (g + 2) 34 (vs (fil 3 (fun i => Gf.atk L (unit i) x 3) k)) ∧ Below (g + 2) w3 wr) (fun i _ => 3 - (intOf i).toNat)
  case atStart => exact ⟨0, by omega, rfl, o2, Below.refl _ _⟩
  case round =>
    obtain ⟨k, hk, rfl, oS, hb⟩ := hrel
    generalize wr = wo at *
    by_cases hlt : k < 3
    · have i0 : (k : Int) < 3 := by omega
      have mk : ∀ w, (Instr.makeSlice 36 (.int .i64 3) (.int .i64 3)).run Try.prog w = .ok (.slice (some ⟨w.heap.size, 0, none⟩) 3 3) (w.alloc (.cells (vs (zs 3)) 5)) := fun w => mk38 3 (by omega) w
      have oN := Own.new wo 5 (vs (zs 3))
      have fN := oN.frozen k
      have cN := oN.cellb (i := k) (by rw [zs_length]; omega)
      have hset : (vs (zs 3)).setIfInBounds k (.int .u8 1) = vs (unit k) := vs_set (zs 3) k 1
      have oU := Own.new wo 5 ((vs (zs 3)).setIfInBounds k (.int .u8 1))
      rw [show Own (wo.alloc (.cells ((vs (zs 3)).setIfInBounds k (.int .u8 1)) 5)) wo.heap.size 5 ((vs (zs 3)).setIfInBounds k (.int .u8 1)) = Own (wo.alloc (.cells ((vs (zs 3)).setIfInBounds k (.int .u8 1)) 5)) wo.heap.size 5 (vs (unit k)) from by rw [hset]] at oU
      have oL := (o0.belowB hb (by omega)).alloc (Obj.cells ((vs (zs 3)).setIfInBounds k (.int .u8 1)) 5)
      have oK := oS.alloc (Obj.cells ((vs (zs 3)).setIfInBounds k (.int .u8 1)) 5)
      have bL := (oL.rg).bs hbt
      have bU := oU.rg.bs (unit_bytes k)
      have hb' := hb.alloc (by have := hb.size; have := o2.lt; omega) (Obj.cells ((vs (zs 3)).setIfInBounds k (.int .u8 1)) 5)
      rw [lL] at bL
      rw [unit_length] at bU
      clear hset
      go_wp2_with (go_at_call 17; refine (at_any _ _ 3 3 3 3 L (unit k) x _ hx (by omega) (by omega) bL bU).mono ?_; rintro e w' ⟨he, hx'⟩; obtain rfl := HA.out _ _ he; replace oK := oK.below hx'; have fK := oK.frozen k; have cK := oK.cellb (i := k) (by rw [fil_length]; omega))
      go_roundw
      case rel => exact ⟨k + 1, by omega, by go_num, (by
        have h := oK.setb k (Gf.atk L (unit k) x 3)
        rw [show (fil 3 (fun i => Gf.atk L (unit i) x 3) k).set k (Gf.atk L (unit k) x 3) = fil 3 (fun i => Gf.atk L (unit i) x 3) (k + 1) from fil_set _ _ _ hlt] at h
        exact h), (hb'.trans (hx'.mono (by have := hb'.size; have := o2.lt; omega))).setCell (Nat.le_refl _) _⟩
      case measure => first | (simp [intOf]; done) | (simp [intOf]; omega)
    · obtain rfl : k = 3 := by omega
      have rS := oS.rg
      go_wp2_with (first | (refine ld t34 rfl rfl rfl rS (by rw [fil_length]) ?_) | (refine sto t34 rfl rfl rfl rfl (o1.belowB hb (by omega)) (zs_length _) (by rw [fil_length]) ?_))
      refine res_agg t34 rfl rfl ((o1.belowB hb (by omega)).row _) (by rw [fil_length]) rfl ⟨by rw [fil_all, HF.out], ?_⟩
      rw [HG.out]
      exact below_row (bW.trans (hb.mono (by omega))) (by omega) _
end Go.Proofs.Ytgfnpemonpebpaa
