/-
  THE WALK of a part's bytes: so many bytes at x, of three rows.
-/
import Derived.Test.YtgfnpemonpebpaaWt
namespace Go.Proofs.Ytgfnpemonpebpaa
open Go.RowKit
set_option linter.unusedVariables false
set_option linter.unusedSimpArgs false
def rowS (R S T : ByteArray) : Nat → ByteArray
  | 0 => R
  | 1 => S
  | _ => T
theorem rowS_cell (R S T : ByteArray) {k : Nat} (hk : k < 3) : (#[.string R, .string S, .string T] : Array Value)[k]? = some (.string (rowS R S T k)) := by
  match k, hk with
  | 0, _ => rfl
  | 1, _ => rfl
  | 2, _ => rfl
theorem rowS_size {R S T : ByteArray} {n : Nat} (h1 : n ≤ R.size) (h2 : n ≤ S.size) (h3 : n ≤ T.size) {k : Nat} (hk : k < 3) : n ≤ (rowS R S T k).size := by
  match k, hk with
  | 0, _ => exact h1
  | 1, _ => exact h2
  | 2, _ => exact h3
/-- the sum of the first k rows, each with its weight -/
def acc (W : List Nat) (R S T : ByteArray) (i : Nat) : Nat → Nat
  | 0 => 0
  | k + 1 => acc W R S T i k ^^^ Gf.mul (Gf.nth W k) (Gf.nth (toN (rowS R S T k)) i)
theorem acc_lt {W : List Nat} (hW : Gf.Bytes W) (R S T : ByteArray) (i : Nat) : ∀ k, acc W R S T i k < 256
  | 0 => by simp [acc]
  | k + 1 => Gf.xor_lt (acc_lt hW R S T i k) (Gf.mul_lt _ _ (hW.at_ _))
def mixl (W : List Nat) (R S T : ByteArray) (n k m : Nat) : List Nat := (List.range n).map fun i => if i < m then acc W R S T i (k + 1) else acc W R S T i k
theorem mixl_length (W : List Nat) (R S T : ByteArray) (n k m : Nat) : (mixl W R S T n k m).length = n := by simp [mixl]
theorem mixl_nth (W : List Nat) (R S T : ByteArray) {n m : Nat} (k : Nat) (h : m < n) : Gf.nth (mixl W R S T n k m) m = acc W R S T m k := by
  rw [Gf.nth_eq]; simp [mixl, h]
theorem mixl_set (W : List Nat) (R S T : ByteArray) {n m : Nat} (k : Nat) (h : m < n) : (mixl W R S T n k m).set m (acc W R S T m (k + 1)) = mixl W R S T n k (m + 1) := by
  apply List.ext_getElem?
  intro i
  rw [List.getElem?_set]
  by_cases hi : i < n
  · by_cases him : m = i
    · subst him; simp [mixl, hi]
    · rw [if_neg him]
      simp only [mixl, List.getElem?_map, List.getElem?_range hi, Option.map_some, Option.some.injEq]
      by_cases h' : i < m
      · rw [if_pos h', if_pos (by omega)]
      · rw [if_neg h', if_neg (by omega)]
  · rw [if_neg (by omega), List.getElem?_eq_none (by rw [mixl_length]; omega), List.getElem?_eq_none (by rw [mixl_length]; omega)]
theorem mixl_next (W : List Nat) (R S T : ByteArray) (n k : Nat) : mixl W R S T n k n = mixl W R S T n (k + 1) 0 :=
  List.map_congr_left fun i hi => by rw [if_pos (by simpa using hi), if_neg (by omega)]
theorem mixl_zero (W : List Nat) (R S T : ByteArray) (n : Nat) : mixl W R S T n 0 0 = zs n := by
  unfold mixl zs
  apply List.ext_getElem?
  intro i
  simp [List.getElem?_replicate, acc]
  by_cases hi : i < n <;> simp [hi]
theorem mixl_all {a b c x : Nat} (ha : a < 256) (hb : b < 256) (hc : c < 256) (hx : x < 256) (R S T : ByteArray) (n : Nat) :
    mixl (wts a b c x) R S T n 3 0 = Pa.row a b c (toN R) (toN S) (toN T) n x :=
  List.map_congr_left fun i hi => by
    rw [if_neg (by omega), Sx.lin3 ha hb hc hx ((toN_bytes R).at_ i) ((toN_bytes S).at_ i) ((toN_bytes T).at_ i)]
    simp only [acc, Nat.zero_xor]
    rfl
theorem idx34 {l : List Nat} (hl : l.length = 3) {k : Nat} (hk : k < 3) (w : World) :
    (Instr.index 34 (.agg (vs l)) (.int .i64 (k : Int))).run Try.prog w = .ok (.int .u8 (Gf.nth l k : Nat)) w := idxv Try.underlying34 (by kernel_rfl) (by kernel_rfl) hl hk w
set_option maxRecDepth 100000 in
set_option maxHeartbeats 4000000 in
theorem cat_any (a b c x : Nat) (ha : a < 256) (hb : b < 256) (hc : c < 256) (hx : x < 256) (h12 : a ≠ b) (h13 : a ≠ c) (h23 : b ≠ c) (R S T : ByteArray) (h1 : R.size ≤ S.size) (h2 : R.size ≤ T.size) (hR : R.size ≤ 1000000) (w : World) :
    Calls Try.prog 22 #[.agg (vs [a, b, c]), .agg #[.string R, .string S, .string T], .int .u8 (x : Int)] w fun e w' => e = .returned (.string (bs (Pa.row a b c (toN R) (toN S) (toN T) R.size x))) ∧ Below w.heap.size w w' := by
  have hw := fun w => weights_any a b c x ha hb hc hx h12 h13 h23 w
  have lW := wts_length a b c x
  have bWt := wts_bytes a b c x
  rw [← mixl_all ha hb hc hx R S T R.size]
  generalize wts a b c x = Wt at *
  obtain ⟨L, hL⟩ : ∃ L, L = [a, b, c] := ⟨_, rfl⟩
  have lL : L.length = 3 := by rw [hL]; rfl
  rw [← hL] at hw ⊢
  have hc' := fun {k} (hk : k < 3) => rowS_cell R S T hk
  have hs' := fun {k} (hk : k < 3) => rowS_size (Nat.le_refl R.size) h1 h2 hk
  generalize hq : (#[.string R, .string S, .string T] : Array Value) = rows at *
  have hq0 : rows[0]? = some (.string R) := by rw [← hq]; rfl
  have hqs : rows.size = 3 := by rw [← hq]; rfl
  have HR := Lib.hid (And.intro h1 h2)
  clear hL ha hb hc h12 h13 h23 h1 h2 hq
  generalize hn : R.size = n at *
  have mk := fun w => mk38 n hR w
  have z1 : (w.alloc (Obj.cells (vs L) 34)).heap.size = w.heap.size + 1 := Array.size_push ..
  have z2 : ((w.alloc (Obj.cells (vs L) 34)).alloc (Obj.cells rows 49)).heap.size = w.heap.size + 2 := by rw [show ((w.alloc (Obj.cells (vs L) 34)).alloc (Obj.cells rows 49)).heap.size = (w.alloc (Obj.cells (vs L) 34)).heap.size + 1 from Array.size_push .., z1]
  have o0 := ((Own.new w 34 (vs L)).alloc (Obj.cells rows 49)).alloc (Obj.cells (vs (zs n)) 5)
  have o1 := (Own.new' (w.alloc (Obj.cells (vs L) 34)) 49 rows z1.symm).alloc (Obj.cells (vs (zs n)) 5)
  have o2 := Own.new' ((w.alloc (Obj.cells (vs L) 34)).alloc (Obj.cells rows 49)) 5 (vs (zs n)) z2.symm
  have bW := (((Below.refl w.heap.size w).alloc (Nat.le_refl _) (Obj.cells (vs L) 34)).alloc (by omega) (Obj.cells rows 49)).alloc (by omega) (Obj.cells (vs (zs n)) 5)
  have r0 := o0.rg
  have cR := (Own.new' (w.alloc (Obj.cells (vs L) 34)) 49 rows z1.symm).cell 0
  rw [hq0] at cR
  clear z1 z2
  go_enter Try.func22, Try.ntmps22
  go_wp2_with (refine ld t34 rfl rfl rfl r0 lL ?_)
  generalize hw3 : ((w.alloc (Obj.cells (vs L) 34)).alloc (Obj.cells rows 49)).alloc (Obj.cells (vs (zs n)) 5) = w3 at *
  have HW3 := Lib.hid hw3
  clear hw3
  generalize hg : w.heap.size = g at *
  have HG := Lib.hid hg
  clear hg
  refine (hw _).mono ?_
  rintro e w4 ⟨rfl, hb4⟩
  replace o1 := o1.below hb4
  replace o2 := o2.below hb4
  replace bW := bW.trans (hb4.mono (by have := bW.size; have := HG.out; omega))
  rw [← mixl_zero Wt R S T n] at o2
  clear hb4 hw r0 o0 cR mk
  go_wp2_with fail
  go_loopw [19] (fun i wr => ∃ k : Nat, k ≤ 3 ∧ i = .int .i64 k ∧ Own wr (g + 2) 5 (vs (mixl Wt R S T n k 0)) ∧ Below (g + 2) w4 wr) (fun i _ => 3 - (intOf i).toNat)
  case atStart => exact ⟨0, by omega, rfl, o2, Below.refl _ _⟩
  case round =>
    obtain ⟨k, hk, rfl, oS, hb⟩ := hrel
    by_cases hlt : k < 3
    · have i0 : (k : Int) < 3 := by omega
      have ix := fun w => idx34 lW hlt w
      have wk := bWt.at_ k
      have hm := fun w => mult_any (Gf.nth Wt k) wk w
      have hl34 : (vs Wt).size = 3 := by rw [vs_size, lW]
      have lM := muls_length (Gf.nth Wt k)
      generalize hM : muls (Gf.nth Wt k) = M at *
      have HM := Lib.hid hM
      clear hM
      go_wp2_with (first | (go_at_call 32; refine (hm _).mono ?_; rintro e w5 ⟨rfl, hb5⟩; have oM := Own.new w5 63 (vs M)) | (refine alz z63 rfl rfl ?_) | (refine sto_new t63 rfl rfl rfl rfl rfl ((vs_size _).trans (zs_length _)) lM ?_))
      have oSl : g + 2 < w5.heap.size := Nat.lt_of_lt_of_le oS.lt hb5.size
      replace oS := (oS.below hb5).alloc (Obj.cells (vs M) 63)
      replace hb := (hb.trans (hb5.mono (by have := hb.size; have := o2.lt; omega))).alloc (Nat.le_of_lt oSl) (Obj.cells (vs M) 63)
      clear ix hm
      generalize w5.alloc (Obj.cells (vs M) 63) = w6 at *
      generalize w5.heap.size = gP at *
      go_loopw [27] (fun i wr => ∃ m : Nat, m ≤ n ∧ i = .int .i64 m ∧ Own wr (g + 2) 5 (vs (mixl Wt R S T n k m)) ∧ Own wr gP 63 (vs M) ∧ Below (g + 2) w4 wr) (fun i _ => n - (intOf i).toNat)
      case atStart => exact ⟨0, by omega, rfl, oS, oM, hb⟩
      case round =>
        obtain ⟨m, hmn, rfl, oS, oM, hb⟩ := hrel
        generalize wr = wo at *
        by_cases hlm : m < n
        · have j0 : (m : Int) < (n : Int) := by omega
          have q0 : m < (rowS R S T k).size := Nat.lt_of_lt_of_le hlm (hs' hlt)
          have q1 : (m : Int) < ((rowS R S T k).size : Int) := by omega
          have cR : wo.cell? ⟨g + 1, k, none⟩ = some (.string (rowS R S T k)) := by rw [(o1.belowB hb (by omega)).cell]; exact hc' hlt
          have cS := oS.cellb (i := m) (by rw [mixl_length]; omega)
          have fS := oS.frozen m
          rw [mixl_nth _ _ _ _ _ hlm] at cS
          have xb : ((rowS R S T k)[m]).toNat < 256 := (rowS R S T k)[m].toNat_lt
          have xi : (((rowS R S T k)[m]).toNat : Int) < 256 := by omega
          have cM := oM.cellb (i := ((rowS R S T k)[m]).toNat) (by omega)
          have eM : Gf.nth M ((rowS R S T k)[m]).toNat = Gf.mul (Gf.nth Wt k) ((rowS R S T k)[m]).toNat := by rw [← HM.out]; exact muls_nth _ xb
          rw [eM] at cM
          have X1 := xor8 (acc Wt R S T m k) (Gf.mul (Gf.nth Wt k) ((rowS R S T k)[m]).toNat) (acc_lt bWt _ _ _ _ _) (Gf.mul_lt _ _ wk)
          have HA : Hid (acc Wt R S T m k ^^^ Gf.mul (Gf.nth Wt k) ((rowS R S T k)[m]).toNat = acc Wt R S T m (k + 1)) := Lib.hid (by rw [acc, toN_nth _ _ q0])
          clear eM
          go_wp2_with fail
          go_region
          go_wp2_with fail
          go_roundw
          case rel => exact ⟨m + 1, by omega, by go_num, (by
            have h := (oS.setb m (acc Wt R S T m (k + 1))).drew
            rw [mixl_set _ _ _ _ _ hlm] at h
            rw [HA.out]
            exact h), ((oM.other ⟨g + 2, m, none⟩ _ (by show gP ≠ g + 2; omega)).drew), (hb.setCell (Nat.le_refl _) _).drew⟩
          case measure => first | (simp [intOf]; done) | (simp [intOf]; omega)
        · obtain rfl : m = n := by omega
          go_wp2_with fail
          go_roundw
          case rel => exact ⟨k + 1, by omega, by go_num, by rw [← mixl_next]; exact oS, hb⟩
          case measure => first | (simp [intOf]; done) | (simp [intOf]; omega)
    · obtain rfl : k = 3 := by omega
      have hcv := conv_bs wr (g + 1 + 1) 0 (mixl Wt R S T n 3 0) n n (mixl_length _ _ _ _ _ _ _) oS.rg
      go_wp2_with fail
      go_ret
      exact ⟨rfl, by rw [HG.out]; exact bW.trans (hb.mono (by omega))⟩
end Go.Proofs.Ytgfnpemonpebpaa
