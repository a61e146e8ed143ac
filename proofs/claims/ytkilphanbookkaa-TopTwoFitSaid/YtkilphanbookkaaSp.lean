/-
  THE WALKS of the code's shares: one at a place, and all of them.
-/
import Derived.Test.YtkilphanbookkaaAr
import Derived.Test.YtkilphanbookkaaSm
import Derived.WalkKit
import Derived.Lib.Hide
import Derived.Below
import Derived.RegionTactic
import Derived.BigRegion
import Derived.BigQuiet
import Derived.Deep.RegionWith
import Derived.Deep.RegionHeld3
import Derived.Deep.LoopGhost
namespace Go.Proofs.Ytkilphanbookkaa
open Go.RowKit
set_option linter.unusedVariables false
set_option linter.unusedSimpArgs false
/-- a row that is filled up to a place -/
def fil (n : Nat) (f : Nat → Nat) (k : Nat) : List Nat := (List.range n).map fun i => if i < k then f i else 0
theorem fil_length (n : Nat) (f : Nat → Nat) (k : Nat) : (fil n f k).length = n := by simp [fil]
theorem fil_zero (n : Nat) (f : Nat → Nat) : fil n f 0 = List.replicate n 0 := by
  unfold fil
  apply List.ext_getElem?
  intro i
  simp [List.getElem?_replicate]
  by_cases hi : i < n <;> simp [hi]
theorem fil_all (n : Nat) (f : Nat → Nat) : fil n f n = (List.range n).map f := List.map_congr_left fun i hi => if_pos (by simpa using hi)
theorem fil_set (n : Nat) (f : Nat → Nat) (k : Nat) (hk : k < n) : (fil n f k).set k (f k) = fil n f (k + 1) := by
  apply List.ext_getElem?
  intro i
  rw [List.getElem?_set]
  by_cases hi : i < n
  · by_cases hik : k = i
    · subst hik; simp [fil, hi]
    · rw [if_neg hik]
      simp only [fil, List.getElem?_map, List.getElem?_range hi, Option.map_some, Option.some.injEq]
      by_cases h : i < k
      · rw [if_pos h, if_pos (by omega)]
      · rw [if_neg h, if_neg (by omega)]
  · rw [if_neg (by omega), List.getElem?_eq_none (by rw [fil_length]; omega), List.getElem?_eq_none (by rw [fil_length]; omega)]
/-- the bytes of a text as numbers -/
def toN (s : ByteArray) : List Nat := s.data.toList.map (·.toNat)
theorem toN_length (s : ByteArray) : (toN s).length = s.size := by unfold toN; rw [List.length_map, Array.length_toList]; rfl
theorem toN_bytes (s : ByteArray) : Gf.Bytes (toN s) := fun x hx => by
  obtain ⟨c, _, rfl⟩ := List.mem_map.1 hx
  exact c.toNat_lt
theorem toN_nth (s : ByteArray) (i : Nat) (h : i < s.size) : Gf.nth (toN s) i = (s[i]).toNat := by
  have h' : i < s.data.size := h
  rw [Gf.nth_eq]
  unfold toN
  rw [List.getElem?_map, Array.getElem?_toList, Array.getElem?_eq_getElem h']
  rfl
theorem bs_three {w : World} {g : Nat} {t : TypeId} {x y z : Nat} (h : Own w g t #[.int .u8 (x : Int), .int .u8 (y : Int), .int .u8 (z : Int)]) (hx : x < 256) (hy : y < 256) (hz : z < 256) : Bs w (some ⟨g, 0, none⟩) 3 [x, y, z] := by
  refine ⟨rfl, Sx.three_bytes hx hy hz, fun _ => ⟨g, 0, rfl, fun i hi => ?_⟩⟩
  rw [Nat.zero_add, h.cell]
  match i, hi with
  | 0, _ => rfl
  | 1, _ => rfl
  | 2, _ => rfl
theorem fil_share (X : Nat) (F : Nat → Nat) (k : Nat) (hk : k < 32) : (X :: fil 32 F k).set (1 + k) (F k) = X :: fil 32 F (k + 1) := by
  rw [Nat.add_comm 1 k, List.set_cons_succ, fil_set _ _ _ hk]
theorem below_dr {B : Nat} {a w w' : World} (h : Below B a w) (k : Dr w w') : Below B a w' := by
  obtain ⟨n, rfl⟩ := k
  exact ⟨h.os, h.tape, h.output, h.size, h.block⟩
set_option maxRecDepth 100000 in
set_option maxHeartbeats 2000000 in
theorem sat_any (K : List Nat) (N : ByteArray) (X : Nat) (hK : Gf.Bytes K) (lK : K.length = 32) (lN : N.size = 64) (hX : X < 256) (w : World) :
    Calls Try.prog 10 #[.agg (vs K), .string N, .int .u8 (X : Int)] w fun e w' => e = .returned (.agg (vs (Sx.shr K (toN N) X))) ∧ Below w.heap.size w w' := by
  have HK := Lib.hid (And.intro hK lK)
  have HN := Lib.hid lN
  clear hK lK lN
  have z1 : (w.alloc (Obj.cells (vs K) 23)).heap.size = w.heap.size + 1 := Array.size_push ..
  have z2 : ((w.alloc (Obj.cells (vs K) 23)).alloc (Obj.cells (vs (zs 33)) 31)).heap.size = w.heap.size + 2 := by rw [show ((w.alloc (Obj.cells (vs K) 23)).alloc (Obj.cells (vs (zs 33)) 31)).heap.size = (w.alloc (Obj.cells (vs K) 23)).heap.size + 1 from Array.size_push .., z1]
  have o0 := ((Own.new w 23 (vs K)).alloc (Obj.cells (vs (zs 33)) 31)).alloc (Obj.cells (vs (X :: zs 32)) 31)
  have o1 := (Own.new' (w.alloc (Obj.cells (vs K) 23)) 31 (vs (zs 33)) z1.symm).alloc (Obj.cells (vs (X :: zs 32)) 31)
  have o2 := Own.new' ((w.alloc (Obj.cells (vs K) 23)).alloc (Obj.cells (vs (zs 33)) 31)) 31 (vs (X :: zs 32)) z2.symm
  have bW := (((Below.refl w.heap.size w).alloc (Nat.le_refl _) (Obj.cells (vs K) 23)).alloc (by omega) (Obj.cells (vs (zs 33)) 31)).alloc (by omega) (Obj.cells (vs (X :: zs 32)) 31)
  have r0 := o0.rg
  have HZ := Lib.hid (And.intro z1 z2)
  clear z1 z2
  go_enter Try.func10, Try.ntmps10
  go_wp2_with (first | (refine alz z34 rfl rfl ?_) | (refine bld34 rfl rfl rfl ?_) | (refine sto_new t34 rfl rfl rfl rfl rfl ((vs_size _).trans (zs_length _)) (by rw [List.length_cons, zs_length]) ?_) | (refine ld t23 rfl rfl rfl r0 HK.out.2 ?_))
  generalize hw3 : ((w.alloc (Obj.cells (vs K) 23)).alloc (Obj.cells (vs (zs 33)) 31)).alloc (Obj.cells (vs (X :: zs 32)) 31) = w3 at *
  have HW3 := Lib.hid hw3
  clear hw3 HZ
  generalize hg : w.heap.size = g at *
  have HG := Lib.hid hg
  clear hg
  rw [show X :: zs 32 = X :: fil 32 (fun i => Gf.ev [Gf.nth K i, Gf.nth (toN N) i, Gf.nth (toN N) (32 + i)] X) 0 from by rw [fil_zero]; rfl] at o2
  go_loopw [13] (fun i wr => ∃ k : Nat, k ≤ 32 ∧ i = .int .i64 k ∧ Own wr (g + 2) 31 (vs (X :: fil 32 (fun i => Gf.ev [Gf.nth K i, Gf.nth (toN N) i, Gf.nth (toN N) (32 + i)] X) k)) ∧ Below (g + 2) w3 wr) (fun i _ => 32 - (intOf i).toNat)
  case atStart => exact ⟨0, by omega, rfl, o2, Below.refl _ _⟩
  case round =>
    obtain ⟨k, hk, rfl, oS, hb⟩ := hrel
    generalize wr = wo at *
    by_cases hlt : k < 32
    · have c0 := fun w => idx23 HK.out.2 hlt w
      have i0 : (k : Int) < 32 := by omega
      have n0 : (k : Int) < (N.size : Int) := by rw [HN.out]; omega
      have n1 : 32 + (k : Int) < (N.size : Int) := by rw [HN.out]; omega
      have n0' : k < N.size := by omega
      have n1' : 32 + k < N.size := by omega
      have HF : Hid (Gf.ev [Gf.nth K k, (N[k]).toNat, (N[32 + k]).toNat] X = (fun i => Gf.ev [Gf.nth K i, Gf.nth (toN N) i, Gf.nth (toN N) (32 + i)] X) k) := Lib.hid (by simp only [toN_nth _ _ n0', toN_nth _ _ n1'])
      have e1 : IntKind.i64.wrap (32 + (k : Int)) = 32 + (k : Int) := IntWalk.i64_in _ (by omega)
      have t32 : (32 + (k : Int)).toNat = 32 + k := by omega
      have hbs := fun (W : World) => bs_three (w := (W.alloc (Obj.cells #[.int .u8 (Gf.nth K k : Nat), .int .u8 ((N[k]).toNat : Nat), .int .u8 ((N[32 + k]).toNat : Nat)] 5)).drew) (Own.new W 5 #[.int .u8 (Gf.nth K k : Nat), .int .u8 ((N[k]).toNat : Nat), .int .u8 ((N[32 + k]).toNat : Nat)]) (HK.out.1.at_ k) (N[k]).toNat_lt (N[32 + k]).toNat_lt
      go_wp2_with fail
      go_region_with (go_at_call 12; refine (eval_any _ 3 3 _ X _ hX (by omega) (hbs _)).mono ?_; rintro e w' ⟨rfl, hd⟩; have oS' := ((oS.alloc _).drew).dr hd; have f1 := oS'.frozen (1 + k); have c1 := oS'.cellb (i := 1 + k) (by rw [List.length_cons, fil_length]; omega))
      all_goals
        clear c1 f1
        go_wp2_with fail
        go_roundw
        case rel => exact ⟨k + 1, by omega, by go_num, (by
          have h := oS'.setb (1 + k) (Gf.ev [Gf.nth K k, (N[k]).toNat, (N[32 + k]).toNat] X)
          rw [show (X :: fil 32 (fun i => Gf.ev [Gf.nth K i, Gf.nth (toN N) i, Gf.nth (toN N) (32 + i)] X) k).set (1 + k) (Gf.ev [Gf.nth K k, (N[k]).toNat, (N[32 + k]).toNat] X) = X :: fil 32 (fun i => Gf.ev [Gf.nth K i, Gf.nth (toN N) i, Gf.nth (toN N) (32 + i)] X) (k + 1) from by rw [HF.out, fil_share _ _ _ hlt]] at h
          exact h), ((below_dr ((hb.alloc (by have := hb.size; have := o2.lt; omega) _).drew) hd).setCell (Nat.le_refl _) _)⟩
        case measure => first | (simp [intOf]; done) | (simp [intOf]; omega)
    · obtain rfl : k = 32 := by omega
      have rS := oS.rg
      go_wp2_with (first | (refine ld t34 rfl rfl rfl rS (by rw [List.length_cons, fil_length]) ?_) | (refine sto t34 rfl rfl rfl rfl (o1.belowB hb (by omega)) (zs_length _) (by rw [List.length_cons, fil_length]) ?_))
      refine res_agg t34 rfl rfl ((o1.belowB hb (by omega)).row _) (by rw [List.length_cons, fil_length]) rfl ⟨by rw [fil_all]; rfl, ?_⟩
      rw [HG.out]
      exact below_row (bW.trans (hb.mono (by omega))) (by omega) _
end Go.Proofs.Ytkilphanbookkaa
