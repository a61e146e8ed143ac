/-
  THE WALK of a block that is taken in, of the code.
-/
import Derived.Test.YtaoaebdjinlcnaaDoorRo
import Derived.RegionTactic
import Derived.BigRegion
set_option linter.unusedVariables false
set_option linter.unusedSimpArgs false
set_option maxRecDepth 100000
namespace Go.Proofs.YtaoaebdjinlcnaaDoor
open Go.RowKit
/-- the first i numbers of a state and of the table, and zeros -/
def lay (H : List Nat) (i : Nat) : List Nat := prn 8 H i ++ prn 8 Bl.iv i
theorem iv_len : Bl.iv.length = 8 := rfl
theorem lay_length {H : List Nat} (h : H.length = 8) {i : Nat} (hi : i ≤ 8) : (lay H i).length = 16 := by
  rw [lay, List.length_append, prn_length h hi, prn_length iv_len hi]
theorem lay_next {H : List Nat} (h : H.length = 8) {i : Nat} (hi : i < 8) : ((lay H i).set i (Bl.nth H i)).set (i + 8) (Bl.nth Bl.iv i) = lay H (i + 1) := by
  have l1 := prn_length h (i := i) (by omega)
  have l2 := prn_length h (i := i + 1) (by omega)
  unfold lay
  rw [List.set_append_left _ _ (by omega), prn_next h hi, List.set_append_right _ _ (by omega), l2, show i + 8 - 8 = i from by omega, prn_next iv_len hi]
theorem lay_all {H : List Nat} (h : H.length = 8) : lay H 8 = H ++ Bl.iv := by rw [lay, prn_all h, prn_all iv_len]
theorem lay_zero (H : List Nat) : lay H 0 = List.replicate 16 0 := by simp [lay, prn_zero]
theorem eight_list {H : List Nat} (h : H.length = 8) : H = [Bl.nth H 0, Bl.nth H 1, Bl.nth H 2, Bl.nth H 3, Bl.nth H 4, Bl.nth H 5, Bl.nth H 6, Bl.nth H 7] := by
  match H, h with
  | [a, b, c, d, e, f, g, i], _ => rfl
theorem start_set {H : List Nat} (h : H.length = 8) (n : Nat) :
    ((H ++ Bl.iv).set 12 (Bl.nth (H ++ Bl.iv) 12 ^^^ n % 4294967296)).set 13 (Bl.nth ((H ++ Bl.iv).set 12 (Bl.nth (H ++ Bl.iv) 12 ^^^ n % 4294967296)) 13 ^^^ n / 4294967296 % 4294967296) = Bl.start H n false := by
  rw [eight_list h]; rfl
theorem start_last (H : List Nat) (n : Nat) : (Bl.start H n false).set 14 (4294967295 - Bl.nth (Bl.start H n false) 14) = Bl.start H n true := by
  rw [show Bl.nth (Bl.start H n false) 14 = Bl.nth Bl.iv 6 from rfl]
  simp [Bl.start]
/-- the first i numbers of a state are new -/
def mid (F H : List Nat) (i : Nat) : List Nat := F.take i ++ H.drop i
theorem mid_length {F H : List Nat} (h : F.length = 8) (k : H.length = 8) {i : Nat} (hi : i ≤ 8) : (mid F H i).length = 8 := by simp [mid, h, k]; omega
theorem mid_next {F H : List Nat} (h : F.length = 8) (k : H.length = 8) {i : Nat} (hi : i < 8) : (mid F H i).set i (Bl.nth F i) = mid F H (i + 1) := by
  have l : (F.take i).length = i := by rw [List.length_take]; omega
  unfold mid
  rw [List.drop_eq_getElem_cons (by omega), List.set_append_right _ _ (by omega), l, Nat.sub_self, List.set_cons_zero, List.take_succ_eq_append_getElem (by omega), Bl.nth_lt (by omega), List.append_assoc]
  rfl
theorem mid_at {F H : List Nat} (h : F.length = 8) {i : Nat} (hi : i < 8) : Bl.nth (mid F H i) i = Bl.nth H i := by
  have l : (F.take i).length = i := by rw [List.length_take]; omega
  unfold mid Bl.nth
  rw [List.getD_eq_getElem?_getD, List.getD_eq_getElem?_getD, List.getElem?_append_right (by omega), l, Nat.sub_self, List.getElem?_drop, Nat.add_zero]
theorem mid_all {F H : List Nat} (h : F.length = 8) (k : H.length = 8) : mid F H 8 = F := by
  unfold mid; rw [List.take_of_length_le (by omega), List.drop_of_length_le (by omega)]; simp
theorem mid_zero (F H : List Nat) : mid F H 0 = H := by simp [mid]
theorem fin_nth (H V : List Nat) {i : Nat} (hi : i < 8) : Bl.nth (Bl.fin H V) i = Bl.nth H i ^^^ (Bl.nth V i ^^^ Bl.nth V (i + 8)) := by
  rw [Bl.nth_lt (by simp [Bl.fin, hi])]
  simp [Bl.fin, Nat.xor_assoc]
theorem wrap_lo (n : Nat) : IntKind.u32.wrap (n : Int) = ((n % 4294967296 : Nat) : Int) := by
  show ((n : Int) % 4294967296) = _
  omega
theorem xor_all (x : Nat) (h : x < 4294967296) : 4294967295 ^^^ x = 4294967295 - x := by
  have e : (BitVec.allOnes 32 ^^^ BitVec.ofNat 32 x).toNat = (~~~ (BitVec.ofNat 32 x)).toNat := by rw [BitVec.allOnes_xor]
  rw [BitVec.toNat_xor, BitVec.toNat_not, BitVec.toNat_allOnes, BitVec.toNat_ofNat, Nat.mod_eq_of_lt (by omega)] at e
  exact e
theorem start_head {H A : List Nat} {n : Nat} (hS : (A.set 12 (Bl.nth A 12 ^^^ n % 4294967296)).set 13 (Bl.nth (A.set 12 (Bl.nth A 12 ^^^ n % 4294967296)) 13 ^^^ n / 4294967296 % 4294967296) = Bl.start H n false) (hn : n < 18446744073709551616) :
    (A.set 12 (Bl.nth A 12 ^^^ n % 4294967296)).set 13 (Bl.nth A 13 ^^^ n / 4294967296) = Bl.start H n false := by
  rw [Bl.nth_set_ne (by decide), Nat.mod_eq_of_lt (by omega : n / 4294967296 < 4294967296)] at hS
  exact hS
theorem start_tail {H A : List Nat} {n x y : Nat} (hS : (A.set 12 x).set 13 y = Bl.start H n false) : (Bl.start H n false).set 14 (4294967295 - Bl.nth A 14) = Bl.start H n true := by
  have e : Bl.nth (Bl.start H n false) 14 = Bl.nth A 14 := by rw [← hS, Bl.nth_set_ne (by decide), Bl.nth_set_ne (by decide)]
  rw [← e, start_last]
set_option maxRecDepth 100000 in
set_option maxHeartbeats 4000000 in
theorem take_any (H M : List Nat) (n : Nat) (last : Bool) (hH : Bl.Ok 8 H) (hM : Bl.Ok 16 M) (hn : n < 18446744073709551616) (w : World) (hT : Tab w) :
    Calls Tryd.prog 84 #[.agg (vs .u32 H), .agg (vs .u32 M), .int .u64 n, .bool last] w fun e w' => e = .returned (.agg (vs .u32 (Bl.take H M n last))) ∧ Below w.heap.size w w' := by
  obtain ⟨R, hR⟩ : ∃ R, R = Bl.take H M n last := ⟨_, rfl⟩
  rw [← hR]
  have HR := Lib.hid hR
  clear hR
  have lH := hH.1
  have lM := hM.1
  obtain ⟨W0, hW0⟩ : ∃ W0, W0 = (((w.alloc (Obj.cells (vs .u32 H) 88)).alloc (Obj.cells (vs .u32 M) 110)).alloc (Obj.cells (vs .u32 (List.replicate 8 0)) 88)).alloc (Obj.cells (vs .u32 (List.replicate 16 0)) 110) := ⟨_, rfl⟩
  have o0 : Own W0 w.heap.size 88 (vs .u32 H) := by rw [hW0]; exact (((Own.new' _ _ _ rfl).alloc _).alloc _).alloc _
  have o1 : Own W0 (w.heap.size + 1) 110 (vs .u32 M) := by rw [hW0]; exact ((Own.new' _ _ _ (by simp)).alloc _).alloc _
  have o2 : Own W0 (w.heap.size + 1 + 1) 88 (vs .u32 (List.replicate 8 0)) := by rw [hW0]; exact (Own.new' _ _ _ (by simp)).alloc _
  have o3 : Own W0 (w.heap.size + 1 + 1 + 1) 110 (vs .u32 (lay H 0)) := by rw [hW0, lay_zero]; exact Own.new' _ _ _ (by simp)
  have hb0 : Below w.heap.size w W0 := by rw [hW0]; exact ((((Below.refl _ w).alloc (by simp) _).alloc (by simp) _).alloc (by simp; omega) _).alloc (by simp; omega) _
  have hT0 : Tab W0 := hT.below hb0
  have hz0 : W0.heap.size = w.heap.size + 1 + 1 + 1 + 1 := by rw [hW0]; simp
  have hB := hT.lt
  have HW0 := Lib.hid hW0
  clear hW0 hT
  go_enter Tryd.func84, Tryd.ntmps84
  go_wp2_with fail
  change Code.wp _ _ _ _ ((((w.alloc (Obj.cells (vs .u32 H) 88)).alloc (Obj.cells (vs .u32 M) 110)).alloc (Obj.cells (vs .u32 (List.replicate 8 0)) 88)).alloc (Obj.cells (vs .u32 (List.replicate 16 0)) 110))
  rw [← HW0.out]
  clear HW0
  have HX := Lib.hid (And.intro o0 (And.intro o1 (And.intro o2 (And.intro hb0 (And.intro hT0 hz0)))))
  clear o0 o1 o2 hb0 hT0 hz0
  generalize W0 = wx at *
  generalize hBB : w.heap.size = B at *
  go_loopw [13] (fun i' wr => ∃ k : Nat, k ≤ 8 ∧ i' = .int .i64 k ∧ Own wr (B + 1 + 1 + 1) 110 (vs .u32 (lay H k)) ∧ Only (B + 1 + 1 + 1) wx wr) (fun i _ => 8 - (intOf i).toNat)
  case atStart => exact ⟨0, by omega, rfl, o3, Only.refl _ _⟩
  case round =>
    clear o3
    obtain ⟨k, hk, rfl, oV, ho⟩ := hrel
    generalize wr = wo at *
    by_cases hlt : k < 8
    · have hkI : (k : Int) < 8 := by omega
      have hT := HX.out.2.2.2.2.1.only ho (by omega)
      have oH := ho.own HX.out.1 (by omega)
      have ll := lay_length lH hk
      obtain ⟨q, hq⟩ : ∃ q, q = k + 8 := ⟨_, rfl⟩
      have e8 : IntKind.i64.wrap ((k : Int) + 8) = (q : Int) := by rw [IntWalk.i64_in _ (by omega)]; omega
      have cH := oH.drew.cell (i := k) (by omega)
      have cT := hT.1 k hlt
      have cV := oV.drew.cell (i := k) (by omega)
      have cW := oV.drew.cell (i := q) (by omega)
      have zV := oV.drew.frozen k
      have zW := oV.drew.frozen q
      have kq : k ≠ q := by omega
      have s1 := oV.set k (Bl.nth H k)
      have cW2 : (wo.setCell ⟨B + 1 + 1 + 1, k, none⟩ (.int .u32 (Bl.nth H k : Nat))).drew.cell? ⟨B + 1 + 1 + 1, q, none⟩ = _ := s1.drew.cell (i := q) (by simp; omega)
      have zW2 : (wo.setCell ⟨B + 1 + 1 + 1, k, none⟩ (.int .u32 (Bl.nth H k : Nat))).drew.frozen? ⟨B + 1 + 1 + 1, q, none⟩ = false := s1.drew.frozen q
      have s2 := (s1.set q (Bl.nth Bl.iv k)).drew
      have h1 := ((ho.set k (.int .u32 (Bl.nth H k : Nat))).set q (.int .u32 (Bl.nth Bl.iv k : Nat))).drew
      have i1 : (k : Int) < 16 := by omega
      have i2 : (q : Int) < 16 := by omega
      have cH' := oH.cell (i := k) (by omega)
      have cT' : wo.drew.cell? ⟨0, k, none⟩ = some (.int .u32 (Bl.nth Bl.iv k : Nat)) := cT
      have eN := lay_next lH hlt
      rw [← hq] at eN
      rw [eN] at s2
      clear hq oV oH ho hT eN s1
      go_wp2_with fail
      go_region
      go_wp2_with fail
      go_roundw
      case rel => exact ⟨k + 1, by omega, by go_num, s2, h1⟩
      case measure => simp [intOf]; omega
    · obtain rfl : k = 8 := by omega
      simp only [show ((8 : Nat) : Int) = 8 from rfl]
      rw [lay_all lH] at oV
      obtain ⟨A, hA⟩ : ∃ A, A = H ++ Bl.iv := ⟨_, rfl⟩
      have lA : A.length = 16 := by rw [hA, List.length_append, lH]; rfl
      have hAo : Bl.Ok 16 A := ⟨lA, by rw [hA]; intro x hx; rcases List.mem_append.mp hx with h | h; exact hH.2 x h; exact Bl.iv_ok.2 x h⟩
      have hS := start_set lH n
      rw [← hA] at oV hS
      have HA := Lib.hid hA
      clear hA
      have c12 := oV.cell (i := 12) (by omega)
      have z12 := oV.frozen 12
      have c13 := oV.cell (i := 13) (by omega)
      have z13 := oV.frozen 13
      have c14 := oV.cell (i := 14) (by omega)
      have z14 := oV.frozen 14
      have x12 : bits BinOp.xor .u32 ((Bl.nth A 12 : Nat) : Int) ((n : Int) % 4294967296) = ((Bl.nth A 12 ^^^ n % 4294967296 : Nat) : Int) := by
        rw [show (n : Int) % 4294967296 = ((n % 4294967296 : Nat) : Int) from by omega]; exact u32_xor_nat _ _ (hAo.nth _) (Nat.mod_lt _ (by decide))
      have x13 : bits BinOp.xor .u32 ((Bl.nth A 13 : Nat) : Int) ((n : Int) / 4294967296) = ((Bl.nth A 13 ^^^ n / 4294967296 : Nat) : Int) := by
        rw [show (n : Int) / 4294967296 = ((n / 4294967296 : Nat) : Int) from by omega]; exact u32_xor_nat _ _ (hAo.nth _) (by omega)
      have x14 : bits BinOp.xor .u32 IntKind.u32.max ((Bl.nth A 14 : Nat) : Int) = ((4294967295 - Bl.nth A 14 : Nat) : Int) := by
        rw [← xor_all _ (hAo.nth _)]; exact u32_xor_nat 4294967295 _ (by decide) (hAo.nth _)
      have s13 := (oV.set 12 (Bl.nth A 12 ^^^ n % 4294967296)).set 13 (Bl.nth A 13 ^^^ n / 4294967296)
      have h13 := (ho.set 12 (.int .u32 ((Bl.nth A 12 ^^^ n % 4294967296 : Nat) : Int))).set 13 (.int .u32 ((Bl.nth A 13 ^^^ n / 4294967296 : Nat) : Int))
      have hS' := start_head hS hn
      have hU := start_tail hS'
      rw [hS'] at s13
      have s14 := s13.set 14 (4294967295 - Bl.nth A 14)
      rw [hU] at s14
      have h14 := h13.set 14 (.int .u32 ((4294967295 - Bl.nth A 14 : Nat) : Int))
      clear hS hS' hU oV ho hAo
      cases last with
      | true =>
        go_wp2_with fail
        have hV := Bl.start_ok hH n true
        have oV := s14
        have ho := h14
        have eR : R = Bl.fin H (Bl.rounds M (Bl.start H n true) 10) := HR.out
        clear c12 z12 c13 z13 c14 z14 x12 x13 x14 s13 h13 s14 h14 HR
        generalize (((wo.setCell ⟨B + 1 + 1 + 1, 12, none⟩ (.int .u32 ((Bl.nth A 12 ^^^ n % 4294967296 : Nat) : Int))).setCell ⟨B + 1 + 1 + 1, 13, none⟩ (.int .u32 ((Bl.nth A 13 ^^^ n / 4294967296 : Nat) : Int))).setCell ⟨B + 1 + 1 + 1, 14, none⟩ (.int .u32 ((4294967295 - Bl.nth A 14 : Nat) : Int))) = ws at *
        generalize Bl.start H n true = V at *
        have HR := Lib.hid eR
        clear eR
        have lV := hV.1
        have oH := ho.own HX.out.1 (by omega)
        have oM := ho.own HX.out.2.1 (by omega)
        have oZ := ho.own HX.out.2.2.1 (by omega)
        have hT := HX.out.2.2.2.2.1.only ho (by omega)
        have hb := HX.out.2.2.2.1.trans (ho.below (by omega))
        have hz : ws.heap.size = B + 1 + 1 + 1 + 1 := by rw [ho.size]; exact HX.out.2.2.2.2.2
        have HY := Lib.hid (And.intro oV (And.intro oH (And.intro oM (And.intro oZ (And.intro hT hz)))))
        clear oV oH oM oZ hT hz ho HX
        go_loopw [46] (fun i' wr => ∃ k : Nat, k ≤ 10 ∧ i' = .int .i64 k ∧ Own wr (B + 1 + 1 + 1) 110 (vs .u32 (Bl.rounds M V k)) ∧ Own wr B 88 (vs .u32 H) ∧ Own wr (B + 1) 110 (vs .u32 M) ∧ Own wr (B + 1 + 1) 88 (vs .u32 (List.replicate 8 0)) ∧ Tab wr ∧ Below w.heap.size w wr ∧ B + 1 + 1 + 1 + 1 ≤ wr.heap.size) (fun i _ => 10 - (intOf i).toNat)
        case atStart => exact ⟨0, by omega, rfl, HY.out.1, HY.out.2.1, HY.out.2.2.1, HY.out.2.2.2.1, HY.out.2.2.2.2.1, by rw [hBB]; exact hb, by rw [HY.out.2.2.2.2.2]; omega⟩
        case round =>
          clear HY hb
          obtain ⟨k, hk, rfl, oV, oH, oM, oZ, hT, hb, hz⟩ := hrel
          generalize wr = wo at *
          have hVk := Bl.rounds_ok (m := M) hV k
          by_cases hlt : k < 10
          · have hkI : (k : Int) < 10 := by omega
            have hcall := fun w' hT' => round_any (Bl.rounds M V k) M k hVk hM hlt w' hT'
            go_wp2_with (first | (refine ld t63 rfl rfl rfl oV hVk.1 ?_) | (refine ld t63 rfl rfl rfl oM lM ?_))
            refine (hcall _ hT).mono ?_
            rintro e w3 ⟨rfl, hx⟩
            replace hb := hb.trans (hx.mono hb.size)
            replace oV := Below.own hx oV (by omega)
            replace oH := Below.own hx oH (by omega)
            replace oM := Below.own hx oM (by omega)
            replace oZ := Below.own hx oZ (by omega)
            replace hT := hT.below hx
            replace hz : B + 1 + 1 + 1 + 1 ≤ w3.heap.size := Nat.le_trans hz hx.size
            clear hx hcall
            have hn' := Bl.mixes_ok (m := M) hVk k 8
            go_wp2_with (refine sto2 t63 rfl rfl rfl rfl rfl oV hVk.1 hn'.1 ?_)
            go_roundw
            case rel => exact ⟨k + 1, by omega, by go_num, oV.row _, oH.rowOther _ _ (by omega), oM.rowOther _ _ (by omega), oZ.rowOther _ _ (by omega), hT.only ((Only.refl (B + 1 + 1 + 1) _).row _) (by omega), below_row hb (by omega) _, by rw [((Only.refl (B + 1 + 1 + 1) w3).row _).size]; exact hz⟩
            case measure => simp [intOf]; omega
          · obtain rfl : k = 10 := by omega
            simp only [show ((10 : Nat) : Int) = 10 from rfl]
            generalize Bl.rounds M V 10 = Z at *
            clear hV
            have lZ := hVk.1
            have hF := Bl.fin_ok hH hVk
            have lF := hF.1
            have fN := fun i (h : i < 8) => fin_nth H Z h
            generalize Bl.fin H Z = F at *
            have oH0 : Own wo B 88 (vs .u32 (mid F H 0)) := by rw [mid_zero]; exact oH
            have HY := Lib.hid (And.intro oV (And.intro oZ (And.intro hb hz)))
            clear oV oM oZ hT hb hz oH
            go_wp2_with fail
            go_loopw [54] (fun i' wr => ∃ k : Nat, k ≤ 8 ∧ i' = .int .i64 k ∧ Own wr B 88 (vs .u32 (mid F H k)) ∧ Only B wo wr) (fun i _ => 8 - (intOf i).toNat)
            case atStart => exact ⟨0, by omega, rfl, oH0, Only.refl _ _⟩
            case round =>
              clear oH0
              obtain ⟨k, hk, rfl, oH, ho⟩ := hrel
              generalize wr = wp at *
              by_cases hlt : k < 8
              · have hkI : (k : Int) < 8 := by omega
                have oV := ho.own HY.out.1 (by omega)
                have ll := mid_length lF lH hk
                obtain ⟨q, hq⟩ : ∃ q, q = k + 8 := ⟨_, rfl⟩
                have e8 : IntKind.i64.wrap ((k : Int) + 8) = (q : Int) := by rw [IntWalk.i64_in _ (by omega)]; omega
                have cH := oH.drew.cell (i := k) (by omega)
                rw [mid_at lF hlt] at cH
                have cV := oV.drew.cell (i := k) (by omega)
                have cW := oV.drew.cell (i := q) (by omega)
                have zH := oH.drew.frozen k
                have i1 : (k : Int) < 16 := by omega
                have i2 : (q : Int) < 16 := by omega
                have x1 := u32_xor_nat (Bl.nth Z k) (Bl.nth Z q) (hVk.nth _) (hVk.nth _)
                have x2 := u32_xor_nat (Bl.nth H k) (Bl.nth Z k ^^^ Bl.nth Z q) (hH.nth _) (Bl.xor_lt (hVk.nth _) (hVk.nth _))
                have f1 := fN k hlt
                rw [← hq] at f1
                rw [← f1] at x2
                have s1 := (oH.set k (Bl.nth F k)).drew
                rw [mid_next lF lH hlt] at s1
                have h1 := (ho.set k (.int .u32 (Bl.nth F k : Nat))).drew
                clear f1 hq oV oH ho fN
                go_wp2_with fail
                go_region
                go_wp2_with fail
                go_roundw
                case rel => exact ⟨k + 1, by omega, by go_num, s1, h1⟩
                case measure => simp [intOf]; omega
              · obtain rfl : k = 8 := by omega
                simp only [show ((8 : Nat) : Int) = 8 from rfl]
                rw [mid_all lF lH] at oH
                have oR := ho.own HY.out.2.1 (by omega)
                have hb := HY.out.2.2.1.trans (ho.below (by omega))
                go_wp2_with (first | (refine ld t42 rfl rfl rfl oH lF ?_) | (refine sto t42 rfl rfl rfl rfl oR rfl lF ?_))
                refine ret_arr t42 rfl rfl (oR.row _) lF rfl ⟨by rw [HR.out], below_row hb (by omega) _⟩
      | false =>
        go_wp2_with fail
        have hV := Bl.start_ok hH n false
        have oV := s13
        have ho := h13
        have eR : R = Bl.fin H (Bl.rounds M (Bl.start H n false) 10) := HR.out
        clear c12 z12 c13 z13 c14 z14 x12 x13 x14 s13 h13 s14 h14 HR
        generalize ((wo.setCell ⟨B + 1 + 1 + 1, 12, none⟩ (.int .u32 ((Bl.nth A 12 ^^^ n % 4294967296 : Nat) : Int))).setCell ⟨B + 1 + 1 + 1, 13, none⟩ (.int .u32 ((Bl.nth A 13 ^^^ n / 4294967296 : Nat) : Int))) = ws at *
        generalize Bl.start H n false = V at *
        have HR := Lib.hid eR
        clear eR
        have lV := hV.1
        have oH := ho.own HX.out.1 (by omega)
        have oM := ho.own HX.out.2.1 (by omega)
        have oZ := ho.own HX.out.2.2.1 (by omega)
        have hT := HX.out.2.2.2.2.1.only ho (by omega)
        have hb := HX.out.2.2.2.1.trans (ho.below (by omega))
        have hz : ws.heap.size = B + 1 + 1 + 1 + 1 := by rw [ho.size]; exact HX.out.2.2.2.2.2
        have HY := Lib.hid (And.intro oV (And.intro oH (And.intro oM (And.intro oZ (And.intro hT hz)))))
        clear oV oH oM oZ hT hz ho HX
        go_loopw [46] (fun i' wr => ∃ k : Nat, k ≤ 10 ∧ i' = .int .i64 k ∧ Own wr (B + 1 + 1 + 1) 110 (vs .u32 (Bl.rounds M V k)) ∧ Own wr B 88 (vs .u32 H) ∧ Own wr (B + 1) 110 (vs .u32 M) ∧ Own wr (B + 1 + 1) 88 (vs .u32 (List.replicate 8 0)) ∧ Tab wr ∧ Below w.heap.size w wr ∧ B + 1 + 1 + 1 + 1 ≤ wr.heap.size) (fun i _ => 10 - (intOf i).toNat)
        case atStart => exact ⟨0, by omega, rfl, HY.out.1, HY.out.2.1, HY.out.2.2.1, HY.out.2.2.2.1, HY.out.2.2.2.2.1, by rw [hBB]; exact hb, by rw [HY.out.2.2.2.2.2]; omega⟩
        case round =>
          clear HY hb
          obtain ⟨k, hk, rfl, oV, oH, oM, oZ, hT, hb, hz⟩ := hrel
          generalize wr = wo at *
          have hVk := Bl.rounds_ok (m := M) hV k
          by_cases hlt : k < 10
          · have hkI : (k : Int) < 10 := by omega
            have hcall := fun w' hT' => round_any (Bl.rounds M V k) M k hVk hM hlt w' hT'
            go_wp2_with (first | (refine ld t63 rfl rfl rfl oV hVk.1 ?_) | (refine ld t63 rfl rfl rfl oM lM ?_))
            refine (hcall _ hT).mono ?_
            rintro e w3 ⟨rfl, hx⟩
            replace hb := hb.trans (hx.mono hb.size)
            replace oV := Below.own hx oV (by omega)
            replace oH := Below.own hx oH (by omega)
            replace oM := Below.own hx oM (by omega)
            replace oZ := Below.own hx oZ (by omega)
            replace hT := hT.below hx
            replace hz : B + 1 + 1 + 1 + 1 ≤ w3.heap.size := Nat.le_trans hz hx.size
            clear hx hcall
            have hn' := Bl.mixes_ok (m := M) hVk k 8
            go_wp2_with (refine sto2 t63 rfl rfl rfl rfl rfl oV hVk.1 hn'.1 ?_)
            go_roundw
            case rel => exact ⟨k + 1, by omega, by go_num, oV.row _, oH.rowOther _ _ (by omega), oM.rowOther _ _ (by omega), oZ.rowOther _ _ (by omega), hT.only ((Only.refl (B + 1 + 1 + 1) _).row _) (by omega), below_row hb (by omega) _, by rw [((Only.refl (B + 1 + 1 + 1) w3).row _).size]; exact hz⟩
            case measure => simp [intOf]; omega
          · obtain rfl : k = 10 := by omega
            simp only [show ((10 : Nat) : Int) = 10 from rfl]
            generalize Bl.rounds M V 10 = Z at *
            clear hV
            have lZ := hVk.1
            have hF := Bl.fin_ok hH hVk
            have lF := hF.1
            have fN := fun i (h : i < 8) => fin_nth H Z h
            generalize Bl.fin H Z = F at *
            have oH0 : Own wo B 88 (vs .u32 (mid F H 0)) := by rw [mid_zero]; exact oH
            have HY := Lib.hid (And.intro oV (And.intro oZ (And.intro hb hz)))
            clear oV oM oZ hT hb hz oH
            go_wp2_with fail
            go_loopw [54] (fun i' wr => ∃ k : Nat, k ≤ 8 ∧ i' = .int .i64 k ∧ Own wr B 88 (vs .u32 (mid F H k)) ∧ Only B wo wr) (fun i _ => 8 - (intOf i).toNat)
            case atStart => exact ⟨0, by omega, rfl, oH0, Only.refl _ _⟩
            case round =>
              clear oH0
              obtain ⟨k, hk, rfl, oH, ho⟩ := hrel
              generalize wr = wp at *
              by_cases hlt : k < 8
              · have hkI : (k : Int) < 8 := by omega
                have oV := ho.own HY.out.1 (by omega)
                have ll := mid_length lF lH hk
                obtain ⟨q, hq⟩ : ∃ q, q = k + 8 := ⟨_, rfl⟩
                have e8 : IntKind.i64.wrap ((k : Int) + 8) = (q : Int) := by rw [IntWalk.i64_in _ (by omega)]; omega
                have cH := oH.drew.cell (i := k) (by omega)
                rw [mid_at lF hlt] at cH
                have cV := oV.drew.cell (i := k) (by omega)
                have cW := oV.drew.cell (i := q) (by omega)
                have zH := oH.drew.frozen k
                have i1 : (k : Int) < 16 := by omega
                have i2 : (q : Int) < 16 := by omega
                have x1 := u32_xor_nat (Bl.nth Z k) (Bl.nth Z q) (hVk.nth _) (hVk.nth _)
                have x2 := u32_xor_nat (Bl.nth H k) (Bl.nth Z k ^^^ Bl.nth Z q) (hH.nth _) (Bl.xor_lt (hVk.nth _) (hVk.nth _))
                have f1 := fN k hlt
                rw [← hq] at f1
                rw [← f1] at x2
                have s1 := (oH.set k (Bl.nth F k)).drew
                rw [mid_next lF lH hlt] at s1
                have h1 := (ho.set k (.int .u32 (Bl.nth F k : Nat))).drew
                clear f1 hq oV oH ho fN
                go_wp2_with fail
                go_region
                go_wp2_with fail
                go_roundw
                case rel => exact ⟨k + 1, by omega, by go_num, s1, h1⟩
                case measure => simp [intOf]; omega
              · obtain rfl : k = 8 := by omega
                simp only [show ((8 : Nat) : Int) = 8 from rfl]
                rw [mid_all lF lH] at oH
                have oR := ho.own HY.out.2.1 (by omega)
                have hb := HY.out.2.2.1.trans (ho.below (by omega))
                go_wp2_with (first | (refine ld t42 rfl rfl rfl oH lF ?_) | (refine sto t42 rfl rfl rfl rfl oR rfl lF ?_))
                refine ret_arr t42 rfl rfl (oR.row _) lF rfl ⟨by rw [HR.out], below_row hb (by omega) _⟩
end Go.Proofs.YtaoaebdjinlcnaaDoor
