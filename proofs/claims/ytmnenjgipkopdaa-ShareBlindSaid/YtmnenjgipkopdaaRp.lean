/-
  THE WALKS of the document's Split, and of what holds shares against each other.
-/
import Derived.Test.YtmnenjgipkopdaaAp
namespace Go.Proofs.Ytmnenjgipkopdaa
open Go.RowKit
set_option linter.unusedVariables false
set_option linter.unusedSimpArgs false
set_option maxRecDepth 100000 in
set_option maxHeartbeats 2000000 in
theorem rsplit_bad (K : List Nat) (N : ByteArray) (n : Int) (lN : N.size ≤ maxLen) (hbad : n < 3 ∨ 255 < n ∨ N.size ≠ 64) (w : World) :
    Calls Try.prog 12 #[.agg (vs K), .int .i64 n, .string N] w fun e w' => e = .returned (.tuple #[.slice none 0 0, .int .i64 1]) ∧ Below w.heap.size w w' := by
  unfold maxLen at lN
  have bW := (Below.refl w.heap.size w).alloc (Nat.le_refl _) (Obj.cells (vs K) 23)
  rcases (by omega : n < 3 ∨ (¬ n < 3 ∧ 255 < n) ∨ (¬ n < 3 ∧ ¬ 255 < n ∧ N.size ≠ 64)) with h1 | ⟨h1, h2⟩ | ⟨h1, h2, h3⟩
  · go_enter Try.func12, Try.ntmps12
    go_wp2_with fail
    go_ret2
    exact ⟨rfl, bW⟩
  · go_enter Try.func12, Try.ntmps12
    go_wp2_with fail
    go_ret2
    exact ⟨rfl, bW⟩
  · have h4 : ((N.size : Int) != 64) = true := by rw [bne_iff_ne]; omega
    clear h3
    go_enter Try.func12, Try.ntmps12
    go_wp2_with fail
    go_ret2
    exact ⟨rfl, bW⟩
set_option maxRecDepth 100000 in
set_option maxHeartbeats 2000000 in
theorem rsplit_ok (K : List Nat) (N : ByteArray) (n : Nat) (hK : Gf.Bytes K) (lK : K.length = 32) (lN : N.size = 64) (h3 : 3 ≤ n) (h255 : n ≤ 255) (w : World) :
    Calls Try.prog 12 #[.agg (vs K), .int .i64 (n : Int), .string N] w fun e w' => SplitIs (Sx.shrs K (toN N) n) n e w' ∧ Below w.heap.size w w' := by
  have HK := Lib.hid (And.intro hK lK)
  have d1 : decide ((n : Int) < 3) = false := by rw [decide_eq_false_iff_not]; omega
  have d2 : decide ((255 : Int) < (n : Int)) = false := by rw [decide_eq_false_iff_not]; omega
  have d3 : ((N.size : Int) != 64) = false := by rw [bne_eq_false_iff_eq]; omega
  have HN := Lib.hid lN
  clear hK lK lN
  have z1 : (w.alloc (Obj.cells (vs K) 23)).heap.size = w.heap.size + 1 := Array.size_push ..
  have o0 := Own.new w 23 (vs K)
  have bW := (Below.refl w.heap.size w).alloc (Nat.le_refl _) (Obj.cells (vs K) 23)
  go_enter Try.func12, Try.ntmps12
  go_wp2_with fail
  generalize hw3 : w.alloc (Obj.cells (vs K) 23) = w3 at *
  have HW3 := Lib.hid hw3
  have HZ := Lib.hid z1
  clear hw3 z1
  generalize hg : w.heap.size = g at *
  have HG := Lib.hid hg
  clear hg
  go_loopw [8, 9] (fun out x wr => ∃ (k : Nat) (A : Option Addr) (cap : Nat), k ≤ n ∧ x = .int .i64 ((k + 1 : Nat) : Int) ∧ out = .slice A k cap ∧ RS wr (g + 1) A k cap (Sx.shrs K (toN N) k) ∧ Below (g + 1) w3 wr) (fun _ x _ => n + 1 - (intOf x).toNat)
  case atStart => exact ⟨0, none, 0, by omega, rfl, rfl, RS.nil _ _, Below.refl _ _⟩
  case round =>
    obtain ⟨k, A, cap, hk, rfl, rfl, hrs, hb⟩ := hrel
    generalize wr = wo at *
    have hgo : g + 1 ≤ wo.heap.size := by have := hb.size; have := HZ.out; have := HG.out; omega
    by_cases hlt : k < n
    · have i0 : ((k + 1 : Nat) : Int) ≤ (n : Int) := by omega
      have e2 : IntKind.u8.wrap ((k + 1 : Nat) : Int) = ((k + 1 : Nat) : Int) := by rw [IntKind.wrap_u8]; omega
      have hX : k + 1 < 256 := by omega
      have hkn : k ≤ 1000 := by omega
      generalize hx : k + 1 = X at *
      have HX := Lib.hid hx
      clear hx
      generalize hl : Sx.shrs K (toN N) k = L at *
      have HL := Lib.hid hl
      clear hl
      have oS := Own.new wo 34 (vs (X :: zs 32))
      have oK := (o0.belowB hb (by omega)).alloc (Obj.cells (vs (X :: zs 32)) 34)
      have hrs1 := hrs.below ((Below.refl _ _).alloc (Nat.le_refl _) (Obj.cells (vs (X :: zs 32)) 34))
      have hb1 := hb.alloc hgo (Obj.cells (vs (X :: zs 32)) 34)
      have hbo := (Below.refl wo.heap.size wo).alloc (Nat.le_refl _) (Obj.cells (vs (X :: zs 32)) 34)
      go_wp2_with (first | (refine alz z34 rfl rfl ?_) | (refine bld34 rfl rfl rfl ?_) | (refine sto_new t34 rfl rfl rfl rfl rfl ((vs_size _).trans (zs_length _)) (by rw [List.length_cons, zs_length]) ?_))
      generalize hw5 : wo.alloc (Obj.cells (vs (X :: zs 32)) 34) = w5 at *
      have HW5 := Lib.hid hw5
      clear hw5
      have hgg : g + 1 ≤ wo.heap.size := hgo
      have hzo : wo.heap.size < w5.heap.size := oS.lt
      generalize hg2 : wo.heap.size = g2 at *
      have HG2 := Lib.hid hg2
      clear hg2
      rw [show X :: zs 32 = X :: fil 32 (fun i => Gf.ev [Gf.nth K i, Gf.nth (toN N) i, Gf.nth (toN N) (32 + i)] X) 0 from by rw [fil_zero]; rfl] at oS
      go_loopw [11] (fun i wr => ∃ j : Nat, j ≤ 32 ∧ i = .int .i64 j ∧ Own wr g2 34 (vs (X :: fil 32 (fun i => Gf.ev [Gf.nth K i, Gf.nth (toN N) i, Gf.nth (toN N) (32 + i)] X) j)) ∧ Below g2 w5 wr) (fun i _ => 32 - (intOf i).toNat)
      case atStart => exact ⟨0, by omega, rfl, oS, Below.refl _ _⟩
      case round =>
        obtain ⟨j, hj, rfl, oS', hb'⟩ := hrel
        generalize wr = wi at *
        by_cases hlt2 : j < 32
        · have i0' : (j : Int) < 32 := by omega
          have n0 : (j : Int) < (N.size : Int) := by rw [HN.out]; omega
          have n1 : 32 + (j : Int) < (N.size : Int) := by rw [HN.out]; omega
          have n0' : j < N.size := by omega
          have n1' : 32 + j < N.size := by omega
          have HF : Hid (Gf.ev [Gf.nth K j, (N[j]).toNat, (N[32 + j]).toNat] X = (fun i => Gf.ev [Gf.nth K i, Gf.nth (toN N) i, Gf.nth (toN N) (32 + i)] X) j) := Lib.hid (by simp only [toN_nth _ _ n0', toN_nth _ _ n1'])
          have e1 : IntKind.i64.wrap (32 + (j : Int)) = 32 + (j : Int) := IntWalk.i64_in _ (by omega)
          have t32 : (32 + (j : Int)).toNat = 32 + j := by omega
          have oK' := oK.belowB hb' (by omega)
          have ck := oK'.cellb (i := j) (by rw [HK.out.2]; exact hlt2)
          have ckd := oK'.drew.cellb (i := j) (by rw [HK.out.2]; exact hlt2)
          have hbs := fun (W : World) => bs_three (w := (W.alloc (Obj.cells #[.int .u8 (Gf.nth K j : Nat), .int .u8 ((N[j]).toNat : Nat), .int .u8 ((N[32 + j]).toNat : Nat)] 5)).drew) (Own.new W 5 #[.int .u8 (Gf.nth K j : Nat), .int .u8 ((N[j]).toNat : Nat), .int .u8 ((N[32 + j]).toNat : Nat)]) (HK.out.1.at_ j) (N[j]).toNat_lt (N[32 + j]).toNat_lt
          go_wp2_with fail
          go_region_with (go_at_call 20; refine (reval_any _ 3 3 [Gf.nth K j, (N[j]).toNat, (N[32 + j]).toNat] X _ hX (by omega) (hbs _)).mono ?_; rintro e w' ⟨rfl, rfl⟩; have oS2 := ((oS'.alloc (Obj.cells #[.int .u8 (Gf.nth K j : Nat), .int .u8 ((N[j]).toNat : Nat), .int .u8 ((N[32 + j]).toNat : Nat)] 5)).drew); have f1 := oS2.frozen (1 + j); have c1 := oS2.cellb (i := 1 + j) (by rw [List.length_cons, fil_length]; omega))
          all_goals
            clear c1 f1 ck ckd
            go_wp2_with fail
            go_roundw
            case rel => exact ⟨j + 1, by omega, by go_num, (by
              have h := ((oS'.alloc (Obj.cells #[.int .u8 (Gf.nth K j : Nat), .int .u8 ((N[j]).toNat : Nat), .int .u8 ((N[32 + j]).toNat : Nat)] 5)).setb (1 + j) (Gf.ev [Gf.nth K j, (N[j]).toNat, (N[32 + j]).toNat] X)).drew
              rw [show (X :: fil 32 (fun i => Gf.ev [Gf.nth K i, Gf.nth (toN N) i, Gf.nth (toN N) (32 + i)] X) j).set (1 + j) (Gf.ev [Gf.nth K j, (N[j]).toNat, (N[32 + j]).toNat] X) = X :: fil 32 (fun i => Gf.ev [Gf.nth K i, Gf.nth (toN N) i, Gf.nth (toN N) (32 + i)] X) (j + 1) from by rw [HF.out, fil_share _ _ _ hlt2]] at h
              exact h), (((hb'.alloc (by have := hb'.size; omega) _).setCell (Nat.le_refl _) _).drew)⟩
            case measure => first | (simp [intOf]; done) | (simp [intOf]; omega)
        · obtain rfl : j = 32 := by omega
          have hSl : (X :: fil 32 (fun i => Gf.ev [Gf.nth K i, Gf.nth (toN N) i, Gf.nth (toN N) (32 + i)] X) 32).length = 33 := by rw [List.length_cons, fil_length]
          have hSe : X :: fil 32 (fun i => Gf.ev [Gf.nth K i, Gf.nth (toN N) i, Gf.nth (toN N) (32 + i)] X) 32 = Sx.shr K (toN N) X := by rw [fil_all]; rfl
          have hSb := Sx.shr_bytes HK.out.1 (toN_bytes N) hX
          rw [hSe] at oS' hSl
          have HSe := Lib.hid HX.out
          have hs1 := Sx.shrs_succ K (toN N) k
          rw [HL.out, HX.out] at hs1
          generalize hS : Sx.shr K (toN N) X = S at *
          have HS := Lib.hid hs1
          clear hS hs1 hSe
          have rS := oS'.rg
          have hrs2 := (hrs.belowB (hbo.trans hb') (Nat.le_of_eq HG2.out)).below ((Below.refl _ _).alloc (Nat.le_refl _) (Obj.cells (vs S) 34))
          have rN := (Own.new wi 34 (vs S)).rg
          have hb2 := (hb1.trans (hb'.mono (by omega))).alloc (by have := hb'.size; omega) (Obj.cells (vs S) 34)
          have hsz : g + 1 ≤ (wi.alloc (Obj.cells (vs S) 34)).heap.size := by rw [show (wi.alloc (Obj.cells (vs S) 34)).heap.size = wi.heap.size + 1 from Array.size_push ..]; have := hb'.size; omega
          go_wp2_with (first
            | (refine ld t34 rfl rfl rfl rS hSl ?_)
            | (refine bsl1 rfl rfl rfl hSl ?_)
            | (refine app_share rfl _ _ rfl (g + 1) A k cap L rfl hrs2 _ _ S rfl rN hSl hSb hkn hsz _ rfl ?_; intro g3 cap3 w7 hrs3 hb3))
          go_roundw
          case rel => exact ⟨k + 1, _, _, by omega, by rw [← HX.out]; go_num, by rw [HX.out], by rw [show Sx.shrs K (toN N) (k + 1) = L ++ [S] from by rw [HX.out, HS.out]]; exact hrs3, hb2.trans hb3⟩
          case measure => first | (simp [intOf]; done) | (simp [intOf]; omega)
    · obtain rfl : n = k := by omega
      have i0 : decide (((n + 1 : Nat) : Int) ≤ (n : Int)) = false := by rw [decide_eq_false_iff_not]; omega
      go_wp2_with fail
      go_ret2
      refine ⟨⟨_, _, rfl, hrs.ss, hrs.cap⟩, ?_⟩
      rw [HG.out]
      exact bW.trans (hb.mono (by omega))
end Go.Proofs.Ytmnenjgipkopdaa
