/-
  THE WALK of the law that an inode put is among all, unless it is free.
-/
import Derived.Test.YtambgmjiafcokaaDoorJe
namespace Go.Proofs.YtambgmjiafcokaaDoor
set_option linter.unusedVariables false
set_option maxRecDepth 100000
set_option linter.unusedSimpArgs false
open Go.RowKit
namespace Dw
open _root_.Go.Proofs.YtambgmjiafcokaaDoor.Nm
set_option maxHeartbeats 2000000 in
theorem has_any {B : Nat} (A : Option Addr) (n c : Nat) (L : List Int) (k : Int) (w : World) (h : RI w B A n c L) (hn : n ≤ 100000) :
    Calls Tryd.prog 22 #[.slice A n c, .int .i64 k] w fun e w' => e = .returned (.bool (decide (k ∈ L))) ∧ w = w' := by
  have hlen := h.1
  go_enter Tryd.func22, Tryd.ntmps22
  go_wp2_with fail
  go_loop [5] (fun i => ∃ j : Nat, j ≤ n ∧ i = .int .i64 j ∧ ∀ p, p < j → L.getD p 0 ≠ k) (fun i => n - (intOf i).toNat)
  case atStart => exact ⟨0, Nat.zero_le _, rfl, fun p hp => by omega⟩
  case round =>
    obtain ⟨j, hj, rfl, hne⟩ := hrel
    have HNE := Lib.hid hne
    clear hne
    by_cases hlt : j < n
    · obtain ⟨g, rfl⟩ : ∃ g, A = some ⟨g, 0, none⟩ := by
        rcases h.form with ⟨_, h0, _⟩ | ⟨g, e, _⟩
        · omega
        · exact ⟨g, e⟩
      have c1 := h.cell hlt
      have b1 : (j : Int) < (n : Int) := by omega
      have e3 : IntKind.i64.wrap ((j : Int) + 1) = (j : Int) + 1 := IntWalk.i64_in _ (by omega)
      have HM := Lib.hid (show L.getD j 0 = k → k ∈ L from fun e => by
        rw [← e, List.getD_eq_getElem?_getD, List.getElem?_eq_getElem (by omega)]
        exact List.getElem_mem _)
      have HX := Lib.hid (show L.getD j 0 = L.getD j 0 from rfl)
      by_cases hv : L.getD j 0 = k
      · have hv1 : (L.getD j 0 == k) = true := beq_iff_eq.2 hv
        have HMM := Lib.hid (HM.out hv)
        clear hv HM HX
        generalize L.getD j 0 = v at *
        go_wp2_with fail
        go_ret
        exact ⟨by rw [decide_eq_true HMM.out]; rfl, rfl⟩
      · have hv1 : (L.getD j 0 == k) = false := beq_eq_false_iff_ne.2 hv
        have HVV := Lib.hid (show ∀ p, p < j + 1 → L.getD p 0 ≠ k from fun p hp => by
          by_cases e : p = j
          · subst e; exact hv
          · exact HNE.out p (by omega))
        clear hv HM HX
        generalize hgv : L.getD j 0 = v at *
        clear hgv
        go_wp2_with fail
        go_round
        case rel => exact ⟨j + 1, by omega, by go_num, HVV.out⟩
        case measure => simp [intOf]; omega
    · obtain rfl : j = n := by omega
      have HN := Lib.hid (show ¬ k ∈ L from fun hm => by
        obtain ⟨p, hp, hpe⟩ := List.getElem_of_mem hm
        refine HNE.out p (by omega) ?_
        rw [List.getD_eq_getElem?_getD, List.getElem?_eq_getElem hp]
        exact hpe)
      go_wp2_with fail
      go_ret
      exact ⟨by rw [decide_eq_false HN.out]; rfl, rfl⟩
theorem all_ne {l : List ByteArray} {b y j k : Nat} (hv : Vol l b y) (h1 : 1 ≤ j) (h2 : j ≤ y) (X : Nat → Int) (hk : k ≠ j) : ((k : Int) ∈ allL (putL l j X) y) ↔ ((k : Int) ∈ allL l y) := by
  rw [allL_mem, allL_mem]
  constructor
  · rintro ⟨n, n1, n2, e, hx⟩
    refine ⟨n, n1, n2, e, ?_⟩
    rwa [get_put_ne hv h1 h2 X n1 (by omega) (by omega)] at hx
  · rintro ⟨n, n1, n2, e, hx⟩
    refine ⟨n, n1, n2, e, ?_⟩
    rwa [get_put_ne hv h1 h2 X n1 (by omega) (by omega)]
theorem all_eq {l : List ByteArray} {b y j : Nat} (hv : Vol l b y) (h1 : 1 ≤ j) (h2 : j ≤ y) {X : Nat → Int} (hf : Ni.Fit X) : ((j : Int) ∈ allL (putL l j X) y) ↔ X 0 ≠ 0 := by
  rw [allL_mem]
  constructor
  · rintro ⟨n, n1, n2, e, hx⟩
    obtain rfl : j = n := by omega
    rwa [get_put hv h1 h2 hf (by omega)] at hx
  · intro hx
    refine ⟨j, h1, h2, rfl, ?_⟩
    rwa [get_put hv h1 h2 hf (by omega)]
set_option maxHeartbeats 8000000 in
theorem counts_any (A : Option Addr) (m c : Nat) (l : List ByteArray) (n : Int) (X : Nat → Int) (w : World) (hl : Tz w A m c l) (hL : Lit l m) :
    Calls Tryd.prog 9 #[.slice A m c, .int .i64 n, .agg (ic X)] w fun e w' => e = .returned (.bool true) ∧ Below w.heap.size w w' := by
  obtain ⟨B, hB⟩ : ∃ B, w.heap.size = B := ⟨_, rfl⟩
  have oX := Nm.Own.new w 27 (ic X)
  have hb := grow w (Obj.cells (ic X) 27)
  have hz := hl.below hb
  rw [hB] at oX
  go_enter Tryd.func9, Tryd.ntmps9
  go_wp2_with fail
  refine (alive_any _).mono ?_
  rintro e w1 ⟨rfl, hx⟩
  replace oX := oX.below hx
  replace hz := hz.below hx
  replace hb := hb.trans (hx.mono hb.size)
  clear hx
  go_wp2_with fail
  refine (great_any A m c l _ hz hL).mono ?_
  rintro e w2 ⟨hg, rfl⟩
  rcases hg with rfl | rfl
  · go_wp2_with fail
    go_ret
    exact ⟨rfl, hb⟩
  go_wp2_with (refine ld27 rfl rfl rfl oX ?_)
  refine (put_iany A m c l n X _ hz hL).mono ?_
  rintro e w3 ⟨hp, hx⟩
  obtain ⟨A3, n3, c3, k3, L3, rfl, ht3, p3⟩ := put_p hp
  clear hp
  replace oX := oX.below hx
  replace hz := hz.below hx
  replace hb := hb.trans (hx.mono hb.size)
  clear hx
  by_cases h3 : k3 = 0
  · subst h3
    obtain ⟨b, y, j, hv, rfl, hj1, hj2, hfX, rfl, rfl⟩ := p3.zero
    have hv3 := put_vol hv hj1 hj2 X
    have hlt := hv.lt
    have HNE := Lib.hid (fun (k : Nat) (hk : k ≠ j) => all_ne hv hj1 hj2 X hk)
    have HEQ := Lib.hid (all_eq hv hj1 hj2 hfX)
    have hL3 : Lit (putL l j X) n3 := hv3.blk.lit
    clear p3
    go_wp2_with fail
    refine (all_any A m c l _ hz hL).mono ?_
    rintro e w4 ⟨hp, hx⟩
    obtain ⟨A4, n4, c4, La, rfl, r4, pa⟩ := all_p hp
    clear hp
    replace oX := oX.below hx
    replace hz := hz.below hx
    replace ht3 := ht3.below hx
    replace hb := hb.trans (hx.mono hb.size)
    clear hx
    obtain rfl := AlP.uniq (.inr ⟨n3, y, hv, rfl⟩) pa
    have hn4 : n4 ≤ 64 := by have := r4.1; have := allL_length l y; omega
    clear pa hz
    go_wp2_with fail
    refine (all_any A3 n3 c3 (putL l j X) _ ht3 hL3).mono ?_
    rintro e w5 ⟨hp, hx⟩
    obtain ⟨A5, n5, c5, Lb, rfl, r5, pb⟩ := all_p hp
    clear hp
    replace oX := oX.below hx
    replace r4 := r4.below hx
    replace hb := hb.trans (hx.mono hb.size)
    clear hx
    obtain rfl := AlP.uniq (.inr ⟨n3, y, hv3, rfl⟩) pb
    have hn5 : n5 ≤ 64 := by have := r5.1; have := allL_length (putL l j X) y; omega
    clear pb ht3 hv3 hv
    generalize allL l y = La at *
    generalize allL (putL l j X) y = Lb at *
    go_wp2_with fail
    go_loopw [12] (fun i wr => ∃ p : Nat, p ≤ 64 ∧ i = .int .i64 ((p : Int) + 1) ∧ wr = w5) (fun i _ => 66 - (intOf i).toNat)
    case atStart => exact ⟨0, by omega, rfl, rfl⟩
    case round =>
      obtain ⟨p, hp, rfl, rfl⟩ := hrel
      by_cases hlt2 : p < 64
      · have p0 : (p : Int) + 1 ≤ 64 := by omega
        have e3 : IntKind.i64.wrap ((p : Int) + 1 + 1) = (p : Int) + 1 + 1 := IntWalk.i64_in _ (by omega)
        by_cases hpj : p + 1 = j
        · have hpj1 : ((p : Int) + 1 != (j : Int)) = false := by
            have : (p : Int) + 1 = (j : Int) := by omega
            simp [this]
          clear hpj
          go_wp2_with fail
          go_roundw
          case rel => exact ⟨p + 1, by omega, by go_num, by first | trivial | rfl⟩
          case measure => simp [intOf]; omega
        · have hpj1 : ((p : Int) + 1 != (j : Int)) = true := by rw [bne_iff_ne]; omega
          have hh := HNE.out (p + 1) hpj
          have hdec : decide ((p : Int) + 1 ∈ Lb) = decide ((p : Int) + 1 ∈ La) := by
            rw [show ((p + 1 : Nat) : Int) = (p : Int) + 1 by omega] at hh
            exact decide_eq_decide.2 hh
          have ha := has_any A4 n4 c4 La ((p : Int) + 1) wr r4 (by omega)
          have hbb := has_any A5 n5 c5 Lb ((p : Int) + 1) wr r5 (by omega)
          rw [hdec] at hbb
          have hq : (decide ((p : Int) + 1 ∈ La) != decide ((p : Int) + 1 ∈ La)) = false := by simp
          clear hpj hh hdec
          generalize decide ((p : Int) + 1 ∈ La) = bo at *
          go_wp2_with fail
          refine ha.mono ?_
          rintro e w6 ⟨rfl, rfl⟩
          go_wp2_with fail
          refine hbb.mono ?_
          rintro e w7 ⟨rfl, rfl⟩
          go_wp2_with fail
          go_roundw
          case rel => exact ⟨p + 1, by omega, by go_num, by first | trivial | rfl⟩
          case measure => simp [intOf]; omega
      · obtain rfl : p = 64 := by omega
        have hbb := has_any A5 n5 c5 Lb (j : Int) wr.drew r5 (by omega)
        have hdec : decide ((j : Int) ∈ Lb) = (X 0 != 0) := by
          by_cases hx0 : X 0 = 0
          · have : ¬ (j : Int) ∈ Lb := fun h => HEQ.out.1 h hx0
            rw [decide_eq_false this]; simp [hx0]
          · rw [decide_eq_true (HEQ.out.2 hx0)]; simp [hx0]
        rw [hdec] at hbb
        have cX : wr.drew.cell? ⟨B, 0, none⟩ = some (.int .i64 (X 0)) := oX.cell 0
        have hq : ((X 0 != 0) == (X 0 != 0)) = true := by simp
        clear hdec
        go_wp2_with fail
        refine wp_region_held_drew (S := fun V => V.cell? ⟨B, 0, none⟩ = some (.int .i64 (X 0))) (by kernel_rfl) cX (fun hHeld => ?_)
        refine wpAnyH_take (i := 0) (oi := { dst := some 49, op := Op.move (Operand.tmp 11), type := _, pos := _, after := _, guard := _ }) (v := ?_) rfl (by kernel_rfl) (by kernel_rfl) (by kernel_rfl) (fun _ _ _ h => h) (Or.inl ⟨by rfl, ?_⟩) hHeld ?_
        rotate_left
        · intro wq hSw
          go_simp
          rfl
        try simp only [Act.put, List.setIfInBounds_toArray, List.set_cons_zero, List.set_cons_succ]
        refine wpAnyH_take (i := 1) (oi := { dst := some 50, op := Op.move (Operand.tmp 10), type := _, pos := _, after := _, guard := _ }) (v := ?_) rfl (by kernel_rfl) (by kernel_rfl) (by kernel_rfl) (fun _ _ _ h => h) (Or.inl ⟨by rfl, ?_⟩) hHeld ?_
        rotate_left
        · intro wq hSw
          go_simp
          rfl
        try simp only [Act.put, List.setIfInBounds_toArray, List.set_cons_zero, List.set_cons_succ]
        refine wpAnyH_take (i := 2) (oi := { dst := some 51, op := Op.move (Operand.tmp 1), type := _, pos := _, after := _, guard := _ }) (v := ?_) rfl (by kernel_rfl) (by kernel_rfl) (by kernel_rfl) (fun _ _ _ h => h) (Or.inl ⟨by rfl, ?_⟩) hHeld ?_
        rotate_left
        · intro wq hSw
          go_simp
          rfl
        try simp only [Act.put, List.setIfInBounds_toArray, List.set_cons_zero, List.set_cons_succ]
        refine wpAnyH_take (i := 4) (oi := { dst := some 53, op := Op.fieldAddr 27 (Operand.tmp 5) 0, type := _, pos := _, after := _, guard := _ }) (v := ?_) rfl (by kernel_rfl) (by kernel_rfl) (by kernel_rfl) (fun _ _ _ h => h) (Or.inl ⟨by rfl, ?_⟩) hHeld ?_
        rotate_left
        · intro wq hSw
          go_simp
          rfl
        try simp only [Act.put, List.setIfInBounds_toArray, List.set_cons_zero, List.set_cons_succ]
        refine wpAnyH_take (i := 5) (oi := { dst := some 54, op := Op.load 3 (Operand.tmp 53), type := _, pos := _, after := _, guard := _ }) (v := ?_) rfl (by kernel_rfl) (by kernel_rfl) (by kernel_rfl) (fun _ _ _ h => h) (Or.inl ⟨by rfl, ?_⟩) hHeld ?_
        rotate_left
        · intro wq hSw
          have s1 := hSw
          go_simp
          rfl
        try simp only [Act.put, List.setIfInBounds_toArray, List.set_cons_zero, List.set_cons_succ]
        refine wpAnyH_take (i := 6) (oi := { dst := some 55, op := Op.binOp BinOp.neq 3 (Operand.tmp 54) (Operand.const (Value.int IntKind.i64 0)) 3, type := _, pos := _, after := _, guard := _ }) (v := ?_) rfl (by kernel_rfl) (by kernel_rfl) (by kernel_rfl) (fun _ _ _ h => h) (Or.inl ⟨by rfl, ?_⟩) hHeld ?_
        rotate_left
        · intro wq hSw
          go_simp
          rfl
        try simp only [Act.put, List.setIfInBounds_toArray, List.set_cons_zero, List.set_cons_succ]
        refine wpAnyH_ready (rs := [3]) (by kernel_rfl) (by simp) ?_
        refine AllReadyH.cons (o := { dst := some 52, op := Op.call { callee := Callee.value (Operand.tmp 49), args := #[Operand.tmp 50, Operand.tmp 51], argTypes := #[31, 3] }, type := _, pos := _, after := _, guard := _ }) rfl (fun KK hKK => ?_) AllReadyH.nil
        have hKS := Lib.hid hKK
        clear hKK
        go_simp
        refine hbb.mono ?_
        rintro e w6 ⟨rfl, rfl⟩
        go_wp2_with fail
        refine hKS.out.out _ _ hHeld (fun hHeld => ?_)
        clear hKS KK
        try simp only [Act.put, List.setIfInBounds_toArray, List.set_cons_zero, List.set_cons_succ]
        refine wpAnyH_take (i := 7) (oi := { dst := some 56, op := Op.binOp BinOp.eql 4 (Operand.tmp 52) (Operand.tmp 55) 4, type := _, pos := _, after := _, guard := _ }) (v := ?_) rfl (by kernel_rfl) (by kernel_rfl) (by kernel_rfl) (fun _ _ _ h => h) (Or.inl ⟨by rfl, ?_⟩) hHeld ?_
        rotate_left
        · intro wq hSw
          go_simp
          rfl
        try simp only [Act.put, List.setIfInBounds_toArray, List.set_cons_zero, List.set_cons_succ]
        refine wpAnyH_take (i := 8) (oi := { dst := some 6, op := Op.assign (Operand.tmp 56), type := _, pos := _, after := _, guard := _ }) (v := ?_) rfl (by kernel_rfl) (by kernel_rfl) (by kernel_rfl) (fun _ _ _ h => h) (Or.inl ⟨by rfl, ?_⟩) hHeld ?_
        rotate_left
        · intro wq hSw
          go_simp
          rfl
        try simp only [Act.put, List.setIfInBounds_toArray, List.set_cons_zero, List.set_cons_succ]
        refine wpAnyH_done (by kernel_rfl) ?_ _
        go_wp2_with fail
        go_ret
        exact ⟨by simp, hb.drew⟩
  · have h31 : (k3 != 0) = true := by simp [h3]
    clear p3 h3
    go_wp2_with fail
    go_ret
    exact ⟨rfl, hb⟩
end Dw
end Go.Proofs.YtambgmjiafcokaaDoor
