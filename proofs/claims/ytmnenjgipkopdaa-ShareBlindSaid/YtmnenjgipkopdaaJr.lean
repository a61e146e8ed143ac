/-
  THE WALKS of the document's Join, of what it stands on, of the third share and of the coefficients.
-/
import Derived.Test.YtmnenjgipkopdaaJo
import Derived.Deep.QuietTactic
import Derived.BigQuiet
namespace Go.Proofs.Ytmnenjgipkopdaa
open Go.RowKit
set_option linter.unusedVariables false
set_option linter.unusedSimpArgs false
theorem efH2 {P : Program} {l : List Oper} {Q : Exit → Act → World → Prop} {md : Region.Mode} {S : World → Prop} {i j : Nat} {oi oj : Oper} {fuel : Nat} {listed : Array Bool} {a : Act} {w : World} (hi : l[i]? = some oi) (hj : l[j]? = some oj) (hr : Region.ready md l.toArray listed = [i, j])
    (hwi : Region.wanted oi (yielded l.toArray a.tmps) = true) (hwj : Region.wanted oj (yielded l.toArray a.tmps) = true)
    (h1 : ∀ K : Act → World → Prop, Shut (∀ a w, S w → (S w → wpAnyH P md l.toArray Q S fuel (listed.setIfInBounds i true) a w) → K a w) → Oper.wp P oi a w K Q)
    (h2 : ∀ K : Act → World → Prop, Shut (∀ a w, S w → (S w → wpAnyH P md l.toArray Q S fuel (listed.setIfInBounds j true) a w) → K a w) → Oper.wp P oj a w K Q) : wpAnyH P md l.toArray Q S (fuel + 1) listed a w :=
  wpAnyH_ready hr (by simp) (AllReadyH.cons (by rw [List.getElem?_toArray]; exact hi) (fun K hK => by rw [if_pos hwi]; exact h1 K hK) (AllReadyH.cons (by rw [List.getElem?_toArray]; exact hj) (fun K hK => by rw [if_pos hwj]; exact h2 K hK) AllReadyH.nil))
theorem bs3 {w : World} {g : Nat} {t : TypeId} {a b c : Nat} (h : Own w g t (vs [a, b, c])) (ha : a < 256) (hb : b < 256) (hc : c < 256) : Bs w (some ⟨g, 0, none⟩) 3 [a, b, c] := h.rg.bs (Sx.three_bytes ha hb hc)
set_option maxRecDepth 100000 in
set_option maxHeartbeats 4000000 in
theorem rright_len (A : Option Addr) (n cap : Nat) (hn : n ≠ 3) (w : World) : Calls Try.prog 22 #[.slice A n cap] w fun e w' => e = .returned (.bool false) ∧ w' = w := by
  have t1 : ((n : Int) != 3) = true := by rw [bne_iff_ne]; omega
  clear hn
  go_enter Try.func22, Try.ntmps22
  go_wp2_with fail
  go_ret
  exact ⟨rfl, rfl⟩
theorem bne8 {x y : Nat} (h : x ≠ y) : (((x : Nat) : Int) != ((y : Nat) : Int)) = true := by rw [bne_iff_ne]; omega
theorem bne8' {x y : Nat} (h : x = y) : (((x : Nat) : Int) != ((y : Nat) : Int)) = false := by simp [h]
theorem bnez {x : Nat} (h : x ≠ 0) : (((x : Nat) : Int) != 0) = true := by rw [bne_iff_ne]; omega
theorem bnez' {x : Nat} (h : x = 0) : (((x : Nat) : Int) != 0) = false := by simp [h]
set_option maxRecDepth 100000 in
set_option maxHeartbeats 8000000 in
theorem rright3 (cap b o X Y Z : Nat) (w : World) (hx : w.cell? ⟨b, o, none⟩ = some (.int .u8 (X : Int))) (hy : w.cell? ⟨b, o + 33, none⟩ = some (.int .u8 (Y : Int))) (hz : w.cell? ⟨b, o + 66, none⟩ = some (.int .u8 (Z : Int))) :
    Calls Try.prog 22 #[.slice (some ⟨b, o, none⟩) 3 cap] w fun e w' => e = .returned (.bool (Sx.ok3 X Y Z)) ∧ Dr w w' := by
  by_cases n0 : X = 0
  · have hk : Hid (Sx.ok3 X Y Z = false) := Lib.hid (by simp [Sx.ok3, n0])
    have t0 := bnez' n0
    clear n0
    go_enter Try.func22, Try.ntmps22
    go_wp2_with fail
    go_quiet (fail)
    go_wp2_with fail
    go_ret
    exact ⟨by rw [hk.out]; rfl, ⟨_, rfl⟩⟩
  · by_cases n1 : Y = 0
    · have hk : Hid (Sx.ok3 X Y Z = false) := Lib.hid (by simp [Sx.ok3, n1])
      have t0 := bnez n0
      have t1 := bnez' n1
      clear n0 n1
      go_enter Try.func22, Try.ntmps22
      go_wp2_with fail
      go_quiet (fail)
      go_wp2_with fail
      go_ret
      exact ⟨by rw [hk.out]; rfl, ⟨_, rfl⟩⟩
    · by_cases n2 : Z = 0
      · have hk : Hid (Sx.ok3 X Y Z = false) := Lib.hid (by simp [Sx.ok3, n2])
        have t0 := bnez n0
        have t1 := bnez n1
        have t2 := bnez' n2
        clear n0 n1 n2
        go_enter Try.func22, Try.ntmps22
        go_wp2_with fail
        go_quiet (fail)
        go_wp2_with fail
        go_ret
        exact ⟨by rw [hk.out]; rfl, ⟨_, rfl⟩⟩
      · by_cases n3 : X = Y
        · have hk : Hid (Sx.ok3 X Y Z = false) := Lib.hid (by simp [Sx.ok3, n3])
          have t0 := bnez n0
          have t1 := bnez n1
          have t2 := bnez n2
          have t3 := bne8' n3
          clear n0 n1 n2 n3
          go_enter Try.func22, Try.ntmps22
          go_wp2_with fail
          go_quiet (fail)
          go_wp2_with fail
          go_ret
          exact ⟨by rw [hk.out]; rfl, ⟨_, rfl⟩⟩
        · by_cases n4 : X = Z
          · have hk : Hid (Sx.ok3 X Y Z = false) := Lib.hid (by simp [Sx.ok3, n4])
            have t0 := bnez n0
            have t1 := bnez n1
            have t2 := bnez n2
            have t3 := bne8 n3
            have t4 := bne8' n4
            clear n0 n1 n2 n3 n4
            go_enter Try.func22, Try.ntmps22
            go_wp2_with fail
            go_quiet (fail)
            go_wp2_with fail
            go_ret
            exact ⟨by rw [hk.out]; rfl, ⟨_, rfl⟩⟩
          · by_cases n5 : Y = Z
            · have hk : Hid (Sx.ok3 X Y Z = false) := Lib.hid (by simp [Sx.ok3, n5])
              have t0 := bnez n0
              have t1 := bnez n1
              have t2 := bnez n2
              have t3 := bne8 n3
              have t4 := bne8 n4
              have t5 := bne8' n5
              clear n0 n1 n2 n3 n4 n5
              go_enter Try.func22, Try.ntmps22
              go_wp2_with fail
              go_quiet (fail)
              go_wp2_with fail
              go_ret
              exact ⟨by rw [hk.out]; rfl, ⟨_, rfl⟩⟩
            · have hk : Hid (Sx.ok3 X Y Z = true) := Lib.hid (by simp [Sx.ok3, *])
              have t0 := bnez n0
              have t1 := bnez n1
              have t2 := bnez n2
              have t3 := bne8 n3
              have t4 := bne8 n4
              have t5 := bne8 n5
              clear n0 n1 n2 n3 n4 n5
              go_enter Try.func22, Try.ntmps22
              go_wp2_with fail
              go_quiet (fail)
              go_wp2_with fail
              go_ret
              exact ⟨by rw [hk.out]; rfl, ⟨_, rfl⟩⟩
theorem sz1 (w : World) (o : Obj) : w.heap.size + 1 = (w.alloc o).heap.size := (Array.size_push ..).symm
set_option maxRecDepth 100000 in
set_option maxHeartbeats 8000000 in
theorem rat3 (cap X b o : Nat) (S T U : List Nat) (w : World) (hX : X < 256) (bS : Gf.Bytes S) (bT : Gf.Bytes T) (bU : Gf.Bytes U) (lS : S.length = 33) (lT : T.length = 33) (lU : U.length = 33) (rS : Rg w b o S) (rT : Rg w b (o + 33) T) (rU : Rg w b (o + 66) U)
    (hd : Gf.dup [Gf.nth S 0, Gf.nth T 0, Gf.nth U 0] = false) : Calls Try.prog 23 #[.slice (some ⟨b, o, none⟩) 3 cap, .int .u8 (X : Int)] w fun e w' => e = .returned (.agg (vs (Sx.at3 S T U X))) ∧ Below w.heap.size w w' := by
  have hz : (w.alloc (Obj.cells (vs (zs 32)) 23)).heap.size = w.heap.size + 1 := Array.size_push ..
  have o4 := (Own.new w 23 (vs (zs 32))).alloc (Obj.cells (vs (zs 32)) 23)
  have o5 := Own.new' (w.alloc (Obj.cells (vs (zs 32)) 23)) 23 (vs (zs 32)) hz.symm
  have bW := ((Below.refl w.heap.size w).alloc (Nat.le_refl _) (Obj.cells (vs (zs 32)) 23)).alloc (by omega) (Obj.cells (vs (zs 32)) 23)
  have hbg : b < w.heap.size := block_lt_of_cell (rS.cell (i := 0) (by omega))
  replace rS := (rS.alloc (Obj.cells (vs (zs 32)) 23)).alloc (Obj.cells (vs (zs 32)) 23)
  replace rT := (rT.alloc (Obj.cells (vs (zs 32)) 23)).alloc (Obj.cells (vs (zs 32)) 23)
  replace rU := (rU.alloc (Obj.cells (vs (zs 32)) 23)).alloc (Obj.cells (vs (zs 32)) 23)
  have HD := Lib.hid hd
  clear hd hz
  go_enter Try.func23, Try.ntmps23
  go_wp2_with (refine alz z23 rfl rfl ?_)
  generalize (w.alloc (Obj.cells (vs (zs 32)) 23)).alloc (Obj.cells (vs (zs 32)) 23) = w1 at *
  generalize hg : w.heap.size = g at *
  have HG := Lib.hid hg
  clear hg
  rw [show zs 32 = fil 32 (Sx.tell S T U X) 0 from by rw [fil_zero]; rfl] at o5
  go_loopw [6] (fun i wr => ∃ i' : Nat, i' ≤ 32 ∧ i = .int .i64 i' ∧ Own wr (g + 1) 23 (vs (fil 32 (Sx.tell S T U X) i')) ∧ Below (g + 1) w1 wr) (fun i _ => 32 - (intOf i).toNat)
  case atStart => exact ⟨0, by omega, rfl, o5, Below.refl _ _⟩
  case round =>
    clear o5
    obtain ⟨i, hi, rfl, oO, hb⟩ := hrel
    generalize wr = wi at *
    by_cases hlt : i < 32
    · have i0 : (i : Int) < 32 := by omega
      have oO1 := oO.drew
      have hb1 := hb.drew
      have h0 := (rgB rS hb (by omega)).drew.cell (i := 0) (by omega)
      have h1 := (rgB rT hb (by omega)).drew.cell (i := 0) (by omega)
      have h2 := (rgB rU hb (by omega)).drew.cell (i := 0) (by omega)
      have f0 := (rgB rS hb (by omega)).drew.cell (i := 1 + i) (by omega)
      have f1 := (rgB rT hb (by omega)).drew.cell (i := 1 + i) (by omega)
      have f2 := (rgB rU hb (by omega)).drew.cell (i := 1 + i) (by omega)
      rw [← Nat.add_assoc] at f0 f1 f2
      simp only [Nat.add_zero] at h0 h1 h2
      have j0 : (Gf.nth S 0) < 256 := bS.at_ _
      have j1 : (Gf.nth T 0) < 256 := bT.at_ _
      have j2 : (Gf.nth U 0) < 256 := bU.at_ _
      have k0 : (Gf.nth S (1 + i)) < 256 := bS.at_ _
      have k1 : (Gf.nth T (1 + i)) < 256 := bT.at_ _
      have k2 : (Gf.nth U (1 + i)) < 256 := bU.at_ _
      have htl : Gf.atk [Gf.nth S 0, Gf.nth T 0, Gf.nth U 0] [Gf.nth S (1 + i), Gf.nth T (1 + i), Gf.nth U (1 + i)] X 3 = Sx.tell S T U X i := rfl
      have hdd := HD.out
      have HGI : Hid (g + 1 < wi.drew.heap.size) := Lib.hid oO.lt
      clear oO hb
      generalize Gf.nth S (1 + i) = y0 at *
      generalize Gf.nth T (1 + i) = y1 at *
      generalize Gf.nth U (1 + i) = y2 at *
      generalize Gf.nth S 0 = x0 at *
      generalize Gf.nth T 0 = x1 at *
      generalize Gf.nth U 0 = x2 at *
      have HT := Lib.hid (And.intro htl hdd)
      clear htl hdd
      go_wp2_with fail
      refine wp_region_held_drew (S := fun w' => Below wi.drew.heap.size wi.drew w') (by kernel_rfl) (Below.refl _ _) (fun hH => ?_)
      generalize wi.drew = wj at *
      refine tkH (v := ?_) (i := 0) rfl (by kernel_rfl) (by kernel_rfl) (by kernel_rfl) (fun _ _ _ h => h) hH (Or.inl ⟨by rfl, ?_⟩) ?_
      rotate_left
      · intro wq hq
        go_simp
        try rfl
      try simp only [Act.put, List.setIfInBounds_toArray, List.set_cons_zero, List.set_cons_succ]
      refine tkH (v := ?_) (i := 1) rfl (by kernel_rfl) (by kernel_rfl) (by kernel_rfl) (fun _ _ _ h => h) hH (Or.inl ⟨by rfl, ?_⟩) ?_
      rotate_left
      · intro wq hq
        go_simp
        try rfl
      try simp only [Act.put, List.setIfInBounds_toArray, List.set_cons_zero, List.set_cons_succ]
      refine tkH (v := ?_) (i := 2) rfl (by kernel_rfl) (by kernel_rfl) (by kernel_rfl) (fun _ _ _ h => h) hH (Or.inl ⟨by rfl, ?_⟩) ?_
      rotate_left
      · intro wq hq
        go_simp
        try rfl
      try simp only [Act.put, List.setIfInBounds_toArray, List.set_cons_zero, List.set_cons_succ]
      refine tkH (v := ?_) (i := 3) rfl (by kernel_rfl) (by kernel_rfl) (by kernel_rfl) (fun _ _ _ h => h) hH (Or.inl ⟨by rfl, ?_⟩) ?_
      rotate_left
      · intro wq hq
        have c := cell_in h0 hq
        go_simp
        try rfl
      try simp only [Act.put, List.setIfInBounds_toArray, List.set_cons_zero, List.set_cons_succ]
      refine tkH (v := ?_) (i := 4) rfl (by kernel_rfl) (by kernel_rfl) (by kernel_rfl) (fun _ _ _ h => h) hH (Or.inl ⟨by rfl, ?_⟩) ?_
      rotate_left
      · intro wq hq
        go_simp
        try rfl
      try simp only [Act.put, List.setIfInBounds_toArray, List.set_cons_zero, List.set_cons_succ]
      refine tkH (v := ?_) (i := 5) rfl (by kernel_rfl) (by kernel_rfl) (by kernel_rfl) (fun _ _ _ h => h) hH (Or.inl ⟨by rfl, ?_⟩) ?_
      rotate_left
      · intro wq hq
        go_simp
        try rfl
      try simp only [Act.put, List.setIfInBounds_toArray, List.set_cons_zero, List.set_cons_succ]
      refine tkH (v := ?_) (i := 6) rfl (by kernel_rfl) (by kernel_rfl) (by kernel_rfl) (fun _ _ _ h => h) hH (Or.inl ⟨by rfl, ?_⟩) ?_
      rotate_left
      · intro wq hq
        go_simp
        try rfl
      try simp only [Act.put, List.setIfInBounds_toArray, List.set_cons_zero, List.set_cons_succ]
      refine tkH (v := ?_) (i := 7) rfl (by kernel_rfl) (by kernel_rfl) (by kernel_rfl) (fun _ _ _ h => h) hH (Or.inl ⟨by rfl, ?_⟩) ?_
      rotate_left
      · intro wq hq
        have c := cell_in h1 hq
        go_simp
        try rfl
      try simp only [Act.put, List.setIfInBounds_toArray, List.set_cons_zero, List.set_cons_succ]
      refine tkH (v := ?_) (i := 8) rfl (by kernel_rfl) (by kernel_rfl) (by kernel_rfl) (fun _ _ _ h => h) hH (Or.inl ⟨by rfl, ?_⟩) ?_
      rotate_left
      · intro wq hq
        go_simp
        try rfl
      try simp only [Act.put, List.setIfInBounds_toArray, List.set_cons_zero, List.set_cons_succ]
      refine tkH (v := ?_) (i := 9) rfl (by kernel_rfl) (by kernel_rfl) (by kernel_rfl) (fun _ _ _ h => h) hH (Or.inl ⟨by rfl, ?_⟩) ?_
      rotate_left
      · intro wq hq
        go_simp
        try rfl
      try simp only [Act.put, List.setIfInBounds_toArray, List.set_cons_zero, List.set_cons_succ]
      refine tkH (v := ?_) (i := 10) rfl (by kernel_rfl) (by kernel_rfl) (by kernel_rfl) (fun _ _ _ h => h) hH (Or.inl ⟨by rfl, ?_⟩) ?_
      rotate_left
      · intro wq hq
        go_simp
        try rfl
      try simp only [Act.put, List.setIfInBounds_toArray, List.set_cons_zero, List.set_cons_succ]
      refine tkH (v := ?_) (i := 11) rfl (by kernel_rfl) (by kernel_rfl) (by kernel_rfl) (fun _ _ _ h => h) hH (Or.inl ⟨by rfl, ?_⟩) ?_
      rotate_left
      · intro wq hq
        have c := cell_in h2 hq
        go_simp
        try rfl
      try simp only [Act.put, List.setIfInBounds_toArray, List.set_cons_zero, List.set_cons_succ]
      refine tkH (v := ?_) (i := 13) rfl (by kernel_rfl) (by kernel_rfl) (by kernel_rfl) (fun _ _ _ h => h) hH (Or.inl ⟨by rfl, ?_⟩) ?_
      rotate_left
      · intro wq hq
        go_simp
        try rfl
      try simp only [Act.put, List.setIfInBounds_toArray, List.set_cons_zero, List.set_cons_succ]
      refine tkH (v := ?_) (i := 14) rfl (by kernel_rfl) (by kernel_rfl) (by kernel_rfl) (fun _ _ _ h => h) hH (Or.inl ⟨by rfl, ?_⟩) ?_
      rotate_left
      · intro wq hq
        go_simp
        try rfl
      try simp only [Act.put, List.setIfInBounds_toArray, List.set_cons_zero, List.set_cons_succ]
      refine tkH (v := ?_) (i := 15) rfl (by kernel_rfl) (by kernel_rfl) (by kernel_rfl) (fun _ _ _ h => h) hH (Or.inl ⟨by rfl, ?_⟩) ?_
      rotate_left
      · intro wq hq
        go_simp
        try rfl
      try simp only [Act.put, List.setIfInBounds_toArray, List.set_cons_zero, List.set_cons_succ]
      refine tkH (v := ?_) (i := 16) rfl (by kernel_rfl) (by kernel_rfl) (by kernel_rfl) (fun _ _ _ h => h) hH (Or.inl ⟨by rfl, ?_⟩) ?_
      rotate_left
      · intro wq hq
        go_simp
        try rfl
      try simp only [Act.put, List.setIfInBounds_toArray, List.set_cons_zero, List.set_cons_succ]
      refine tkH (v := ?_) (i := 17) rfl (by kernel_rfl) (by kernel_rfl) (by kernel_rfl) (fun _ _ _ h => h) hH (Or.inl ⟨by rfl, ?_⟩) ?_
      rotate_left
      · intro wq hq
        go_simp
        try rfl
      try simp only [Act.put, List.setIfInBounds_toArray, List.set_cons_zero, List.set_cons_succ]
      refine tkH (v := ?_) (i := 18) rfl (by kernel_rfl) (by kernel_rfl) (by kernel_rfl) (fun _ _ _ h => h) hH (Or.inl ⟨by rfl, ?_⟩) ?_
      rotate_left
      · intro wq hq
        have c := cell_in f0 hq
        go_simp
        try rfl
      try simp only [Act.put, List.setIfInBounds_toArray, List.set_cons_zero, List.set_cons_succ]
      refine tkH (v := ?_) (i := 19) rfl (by kernel_rfl) (by kernel_rfl) (by kernel_rfl) (fun _ _ _ h => h) hH (Or.inl ⟨by rfl, ?_⟩) ?_
      rotate_left
      · intro wq hq
        go_simp
        try rfl
      try simp only [Act.put, List.setIfInBounds_toArray, List.set_cons_zero, List.set_cons_succ]
      refine tkH (v := ?_) (i := 20) rfl (by kernel_rfl) (by kernel_rfl) (by kernel_rfl) (fun _ _ _ h => h) hH (Or.inl ⟨by rfl, ?_⟩) ?_
      rotate_left
      · intro wq hq
        go_simp
        try rfl
      try simp only [Act.put, List.setIfInBounds_toArray, List.set_cons_zero, List.set_cons_succ]
      refine tkH (v := ?_) (i := 21) rfl (by kernel_rfl) (by kernel_rfl) (by kernel_rfl) (fun _ _ _ h => h) hH (Or.inl ⟨by rfl, ?_⟩) ?_
      rotate_left
      · intro wq hq
        go_simp
        try rfl
      try simp only [Act.put, List.setIfInBounds_toArray, List.set_cons_zero, List.set_cons_succ]
      refine tkH (v := ?_) (i := 22) rfl (by kernel_rfl) (by kernel_rfl) (by kernel_rfl) (fun _ _ _ h => h) hH (Or.inl ⟨by rfl, ?_⟩) ?_
      rotate_left
      · intro wq hq
        go_simp
        try rfl
      try simp only [Act.put, List.setIfInBounds_toArray, List.set_cons_zero, List.set_cons_succ]
      refine tkH (v := ?_) (i := 23) rfl (by kernel_rfl) (by kernel_rfl) (by kernel_rfl) (fun _ _ _ h => h) hH (Or.inl ⟨by rfl, ?_⟩) ?_
      rotate_left
      · intro wq hq
        go_simp
        try rfl
      try simp only [Act.put, List.setIfInBounds_toArray, List.set_cons_zero, List.set_cons_succ]
      refine tkH (v := ?_) (i := 24) rfl (by kernel_rfl) (by kernel_rfl) (by kernel_rfl) (fun _ _ _ h => h) hH (Or.inl ⟨by rfl, ?_⟩) ?_
      rotate_left
      · intro wq hq
        have c := cell_in f1 hq
        go_simp
        try rfl
      try simp only [Act.put, List.setIfInBounds_toArray, List.set_cons_zero, List.set_cons_succ]
      refine tkH (v := ?_) (i := 25) rfl (by kernel_rfl) (by kernel_rfl) (by kernel_rfl) (fun _ _ _ h => h) hH (Or.inl ⟨by rfl, ?_⟩) ?_
      rotate_left
      · intro wq hq
        go_simp
        try rfl
      try simp only [Act.put, List.setIfInBounds_toArray, List.set_cons_zero, List.set_cons_succ]
      refine tkH (v := ?_) (i := 26) rfl (by kernel_rfl) (by kernel_rfl) (by kernel_rfl) (fun _ _ _ h => h) hH (Or.inl ⟨by rfl, ?_⟩) ?_
      rotate_left
      · intro wq hq
        go_simp
        try rfl
      try simp only [Act.put, List.setIfInBounds_toArray, List.set_cons_zero, List.set_cons_succ]
      refine tkH (v := ?_) (i := 27) rfl (by kernel_rfl) (by kernel_rfl) (by kernel_rfl) (fun _ _ _ h => h) hH (Or.inl ⟨by rfl, ?_⟩) ?_
      rotate_left
      · intro wq hq
        go_simp
        try rfl
      try simp only [Act.put, List.setIfInBounds_toArray, List.set_cons_zero, List.set_cons_succ]
      refine tkH (v := ?_) (i := 28) rfl (by kernel_rfl) (by kernel_rfl) (by kernel_rfl) (fun _ _ _ h => h) hH (Or.inl ⟨by rfl, ?_⟩) ?_
      rotate_left
      · intro wq hq
        go_simp
        try rfl
      try simp only [Act.put, List.setIfInBounds_toArray, List.set_cons_zero, List.set_cons_succ]
      refine tkH (v := ?_) (i := 29) rfl (by kernel_rfl) (by kernel_rfl) (by kernel_rfl) (fun _ _ _ h => h) hH (Or.inl ⟨by rfl, ?_⟩) ?_
      rotate_left
      · intro wq hq
        go_simp
        try rfl
      try simp only [Act.put, List.setIfInBounds_toArray, List.set_cons_zero, List.set_cons_succ]
      refine tkH (v := ?_) (i := 30) rfl (by kernel_rfl) (by kernel_rfl) (by kernel_rfl) (fun _ _ _ h => h) hH (Or.inl ⟨by rfl, ?_⟩) ?_
      rotate_left
      · intro wq hq
        have c := cell_in f2 hq
        go_simp
        try rfl
      try simp only [Act.put, List.setIfInBounds_toArray, List.set_cons_zero, List.set_cons_succ]
      refine tkH (v := ?_) (i := 32) rfl (by kernel_rfl) (by kernel_rfl) (by kernel_rfl) (fun _ _ _ h => h) hH (Or.inl ⟨by rfl, ?_⟩) ?_
      rotate_left
      · intro wq hq
        go_simp
        try rfl
      try simp only [Act.put, List.setIfInBounds_toArray, List.set_cons_zero, List.set_cons_succ]
      refine efH2 (i := 12) (j := 31) rfl rfl (by kernel_rfl) (by rfl) (by rfl) (fun KK hKK => ?_) (fun KK hKK => ?_)
      · refine wp_of_exec (exec_b3 (x1 := x0) (y1 := x1) (z1 := x2) rfl rfl rfl rfl wj) ?_
        refine hKK.out _ _ ((Below.refl _ wj).alloc (Nat.le_refl _) _) (fun hH => ?_)
        clear hKK KK
        try simp only [Act.put, List.setIfInBounds_toArray, List.set_cons_zero, List.set_cons_succ]
        refine efH (i := 31) rfl (by kernel_rfl) (by rfl) (fun KK hKK => ?_)
        refine wp_of_exec (exec_b3 (x1 := y0) (y1 := y1) (z1 := y2) rfl rfl rfl rfl (wj.alloc (Obj.cells (vs [x0, x1, x2]) 5))) ?_
        refine hKK.out _ _ (hH.alloc (by have := hH.size; omega) _) (fun hH => ?_)
        clear hKK KK
        try simp only [Act.put, List.setIfInBounds_toArray, List.set_cons_zero, List.set_cons_succ]
        refine efH (i := 33) rfl (by kernel_rfl) (by rfl) (fun KK hKK => ?_)
        go_simp
        refine (rat_any _ _ 3 3 3 3 [x0, x1, x2] [y0, y1, y2] X _ hX (by omega) (by omega) (bs3 ((Own.new wj 5 (vs [x0, x1, x2])).alloc (Obj.cells (vs [y0, y1, y2]) 5)) j0 j1 j2) (bs3 (Own.new' (wj.alloc (Obj.cells (vs [x0, x1, x2]) 5)) 5 (vs [y0, y1, y2]) (sz1 wj (Obj.cells (vs [x0, x1, x2]) 5))) k0 k1 k2)).mono ?_
        rintro e w8 ⟨he, hx⟩
        have hH' := hH.trans (hx.below.mono hH.size)
        obtain rfl := at3_yes HT.out.2 he
        clear he
        rw [HT.out.1]
        have oO8 := ((oO1.alloc (Obj.cells (vs [x0, x1, x2]) 5)).alloc (Obj.cells (vs [y0, y1, y2]) 5)).dr hx
        go_wp2_with fail
        refine hKK.out _ _ hH' (fun hH => ?_)
        clear hKK KK hH'
        try simp only [Act.put, List.setIfInBounds_toArray, List.set_cons_zero, List.set_cons_succ]
        refine tkH (v := ?_) (i := 34) rfl (by kernel_rfl) (by kernel_rfl) (by kernel_rfl) (fun _ _ _ h => h) hH (Or.inl ⟨by rfl, ?_⟩) ?_
        rotate_left
        · intro wq hq
          go_simp
          try rfl
        try simp only [Act.put, List.setIfInBounds_toArray, List.set_cons_zero, List.set_cons_succ]
        refine tkH (v := ?_) (i := 35) rfl (by kernel_rfl) (by kernel_rfl) (by kernel_rfl) (fun _ _ _ h => h) hH (Or.inl ⟨by rfl, ?_⟩) ?_
        rotate_left
        · intro wq hq
          go_simp
          try rfl
        try simp only [Act.put, List.setIfInBounds_toArray, List.set_cons_zero, List.set_cons_succ]
        refine tkH (v := ?_) (i := 36) rfl (by kernel_rfl) (by kernel_rfl) (by kernel_rfl) (fun _ _ _ h => h) hH (Or.inl ⟨by rfl, ?_⟩) ?_
        rotate_left
        · intro wq hq
          go_simp
          try rfl
        try simp only [Act.put, List.setIfInBounds_toArray, List.set_cons_zero, List.set_cons_succ]
        refine tkH (v := ?_) (i := 37) rfl (by kernel_rfl) (by kernel_rfl) (by kernel_rfl) (fun _ _ _ h => h) hH (Or.inl ⟨by rfl, ?_⟩) ?_
        rotate_left
        · intro wq hq
          go_simp
          try rfl
        try simp only [Act.put, List.setIfInBounds_toArray, List.set_cons_zero, List.set_cons_succ]
        refine tkH (v := ?_) (i := 38) rfl (by kernel_rfl) (by kernel_rfl) (by kernel_rfl) (fun _ _ _ h => h) hH (Or.inl ⟨by rfl, ?_⟩) ?_
        rotate_left
        · intro wq hq
          go_simp
          try rfl
        try simp only [Act.put, List.setIfInBounds_toArray, List.set_cons_zero, List.set_cons_succ]
        refine wpAnyH_done (by kernel_rfl) ?_ _
        try simp only [Act.put, List.getElem_toArray, List.getElem_cons_zero, List.getElem_cons_succ, List.setIfInBounds_toArray, List.set_cons_zero, List.set_cons_succ]
        have oS8 := oO8.setb i (Sx.tell S T U X i)
        rw [fil_set _ _ _ hlt] at oS8
        have f9 := oO8.frozen i
        have c9 := oO8.cellb (i := i) (by rw [fil_length]; exact hlt)
        have hb8 := (hb1.trans (hH.mono (Nat.le_of_lt HGI.out))).setCell (p := ⟨g + 1, i, none⟩) (Nat.le_refl _) (.int .u8 (Sx.tell S T U X i : Nat))
        clear f0 f1 f2 h0 h1 h2 oO1 hb1 hH
        go_wp2_with fail
        clear f9 c9
        go_roundw
        case rel => exact ⟨i + 1, by omega, by go_num, oS8, hb8⟩
        case measure => first | (simp [intOf]; done) | (simp [intOf]; omega)
      · refine wp_of_exec (exec_b3 (x1 := y0) (y1 := y1) (z1 := y2) rfl rfl rfl rfl wj) ?_
        refine hKK.out _ _ ((Below.refl _ wj).alloc (Nat.le_refl _) _) (fun hH => ?_)
        clear hKK KK
        try simp only [Act.put, List.setIfInBounds_toArray, List.set_cons_zero, List.set_cons_succ]
        refine efH (i := 12) rfl (by kernel_rfl) (by rfl) (fun KK hKK => ?_)
        refine wp_of_exec (exec_b3 (x1 := x0) (y1 := x1) (z1 := x2) rfl rfl rfl rfl (wj.alloc (Obj.cells (vs [y0, y1, y2]) 5))) ?_
        refine hKK.out _ _ (hH.alloc (by have := hH.size; omega) _) (fun hH => ?_)
        clear hKK KK
        try simp only [Act.put, List.setIfInBounds_toArray, List.set_cons_zero, List.set_cons_succ]
        refine efH (i := 33) rfl (by kernel_rfl) (by rfl) (fun KK hKK => ?_)
        go_simp
        refine (rat_any _ _ 3 3 3 3 [x0, x1, x2] [y0, y1, y2] X _ hX (by omega) (by omega) (bs3 (Own.new' (wj.alloc (Obj.cells (vs [y0, y1, y2]) 5)) 5 (vs [x0, x1, x2]) (sz1 wj (Obj.cells (vs [y0, y1, y2]) 5))) j0 j1 j2) (bs3 ((Own.new wj 5 (vs [y0, y1, y2])).alloc (Obj.cells (vs [x0, x1, x2]) 5)) k0 k1 k2)).mono ?_
        rintro e w8 ⟨he, hx⟩
        have hH' := hH.trans (hx.below.mono hH.size)
        obtain rfl := at3_yes HT.out.2 he
        clear he
        rw [HT.out.1]
        have oO8 := ((oO1.alloc (Obj.cells (vs [y0, y1, y2]) 5)).alloc (Obj.cells (vs [x0, x1, x2]) 5)).dr hx
        go_wp2_with fail
        refine hKK.out _ _ hH' (fun hH => ?_)
        clear hKK KK hH'
        try simp only [Act.put, List.setIfInBounds_toArray, List.set_cons_zero, List.set_cons_succ]
        refine tkH (v := ?_) (i := 34) rfl (by kernel_rfl) (by kernel_rfl) (by kernel_rfl) (fun _ _ _ h => h) hH (Or.inl ⟨by rfl, ?_⟩) ?_
        rotate_left
        · intro wq hq
          go_simp
          try rfl
        try simp only [Act.put, List.setIfInBounds_toArray, List.set_cons_zero, List.set_cons_succ]
        refine tkH (v := ?_) (i := 35) rfl (by kernel_rfl) (by kernel_rfl) (by kernel_rfl) (fun _ _ _ h => h) hH (Or.inl ⟨by rfl, ?_⟩) ?_
        rotate_left
        · intro wq hq
          go_simp
          try rfl
        try simp only [Act.put, List.setIfInBounds_toArray, List.set_cons_zero, List.set_cons_succ]
        refine tkH (v := ?_) (i := 36) rfl (by kernel_rfl) (by kernel_rfl) (by kernel_rfl) (fun _ _ _ h => h) hH (Or.inl ⟨by rfl, ?_⟩) ?_
        rotate_left
        · intro wq hq
          go_simp
          try rfl
        try simp only [Act.put, List.setIfInBounds_toArray, List.set_cons_zero, List.set_cons_succ]
        refine tkH (v := ?_) (i := 37) rfl (by kernel_rfl) (by kernel_rfl) (by kernel_rfl) (fun _ _ _ h => h) hH (Or.inl ⟨by rfl, ?_⟩) ?_
        rotate_left
        · intro wq hq
          go_simp
          try rfl
        try simp only [Act.put, List.setIfInBounds_toArray, List.set_cons_zero, List.set_cons_succ]
        refine tkH (v := ?_) (i := 38) rfl (by kernel_rfl) (by kernel_rfl) (by kernel_rfl) (fun _ _ _ h => h) hH (Or.inl ⟨by rfl, ?_⟩) ?_
        rotate_left
        · intro wq hq
          go_simp
          try rfl
        try simp only [Act.put, List.setIfInBounds_toArray, List.set_cons_zero, List.set_cons_succ]
        refine wpAnyH_done (by kernel_rfl) ?_ _
        try simp only [Act.put, List.getElem_toArray, List.getElem_cons_zero, List.getElem_cons_succ, List.setIfInBounds_toArray, List.set_cons_zero, List.set_cons_succ]
        have oS8 := oO8.setb i (Sx.tell S T U X i)
        rw [fil_set _ _ _ hlt] at oS8
        have f9 := oO8.frozen i
        have c9 := oO8.cellb (i := i) (by rw [fil_length]; exact hlt)
        have hb8 := (hb1.trans (hH.mono (Nat.le_of_lt HGI.out))).setCell (p := ⟨g + 1, i, none⟩) (Nat.le_refl _) (.int .u8 (Sx.tell S T U X i : Nat))
        clear f0 f1 f2 h0 h1 h2 oO1 hb1 hH
        go_wp2_with fail
        clear f9 c9
        go_roundw
        case rel => exact ⟨i + 1, by omega, by go_num, oS8, hb8⟩
        case measure => first | (simp [intOf]; done) | (simp [intOf]; omega)
    · obtain rfl : i = 32 := by omega
      have i0 : decide ((32 : Int) < 32) = false := by decide
      have rO := oO.rg
      have oR7 := o4.belowB hb (by omega)
      have hl := fil_length 32 (Sx.tell S T U X) 32
      have he : fil 32 (Sx.tell S T U X) 32 = Sx.at3 S T U X := by rw [fil_all]; rfl
      rw [he] at rO hl
      go_wp2_with (first | (refine ld t23 rfl rfl rfl rO hl ?_) | (refine sto t23 rfl rfl rfl rfl oR7 (zs_length _) hl ?_))
      refine res_agg t23 rfl rfl (oR7.row _) hl rfl ⟨rfl, ?_⟩
      rw [HG.out]
      exact below_row (bW.trans (hb.mono (by omega))) (Nat.le_refl _) _
theorem dup_of_ok {a b c : Nat} (h : Sx.ok3 a b c = true) : Gf.dup [a, b, c] = false := by
  rw [Sx.ok3_iff] at h
  exact Sx.dup3_ne h.2.2.2.1 h.2.2.2.2.1 h.2.2.2.2.2
set_option maxRecDepth 100000 in
set_option maxHeartbeats 2000000 in
theorem rjoin_len (A : Option Addr) (n cap : Nat) (hn : n ≠ 3) (w : World) : Calls Try.prog 15 #[.slice A n cap] w fun e w' => e = .returned (.tuple #[.agg (vs (zs 32)), .int .i64 1]) ∧ Below w.heap.size w w' := by
  have hr := fun w => rright_len A n cap hn w
  have oR := Own.new w 23 (vs (zs 32))
  have bW := (Below.refl w.heap.size w).alloc (Nat.le_refl _) (Obj.cells (vs (zs 32)) 23)
  clear hn
  go_enter Try.func15, Try.ntmps15
  go_wp2_with (refine alz z23 rfl rfl ?_)
  refine (hr _).mono ?_
  rintro e w1 ⟨rfl, rfl⟩
  go_wp2_with (first | (refine bld23z rfl rfl ?_) | (refine sto t23 rfl rfl rfl rfl oR (zs_length _) (zs_length _) ?_))
  exact res2 t23 rfl rfl rfl (oR.row _) (zs_length _) rfl ⟨rfl, below_row bW (Nat.le_refl _) _⟩
set_option maxRecDepth 100000 in
set_option maxHeartbeats 2000000 in
theorem rjoin3 (A : Option Addr) (cap : Nat) (S T U : List Nat) (w : World) (hs : Ss w A 3 [S, T, U]) : Calls Try.prog 15 #[.slice A 3 cap] w fun e w' => JIs S T U e ∧ Below w.heap.size w w' := by
  obtain ⟨S', T', U', b, o, he, lS, lT, lU, bS, bT, bU, rfl, rS, rT, rU⟩ := ss3 hs
  injection he with he1 he
  injection he with he2 he
  injection he with he3 _
  subst he1 he2 he3
  clear hs
  have oR := Own.new w 23 (vs (zs 32))
  have bW := (Below.refl w.heap.size w).alloc (Nat.le_refl _) (Obj.cells (vs (zs 32)) 23)
  replace rS := rS.alloc (Obj.cells (vs (zs 32)) 23)
  replace rT := rT.alloc (Obj.cells (vs (zs 32)) 23)
  replace rU := rU.alloc (Obj.cells (vs (zs 32)) 23)
  have c0 := rS.cell (i := 0) (by omega)
  have c1 := rT.cell (i := 0) (by omega)
  have c2 := rU.cell (i := 0) (by omega)
  simp only [Nat.add_zero] at c0 c1 c2
  have hr := rright3 cap b o _ _ _ _ c0 c1 c2
  clear c0 c1 c2
  cases hk : Sx.ok3 (Gf.nth S 0) (Gf.nth T 0) (Gf.nth U 0)
  · rw [hk] at hr
    have HK := Lib.hid hk
    clear hk
    go_enter Try.func15, Try.ntmps15
    go_wp2_with (refine alz z23 rfl rfl ?_)
    refine hr.mono ?_
    rintro e w1 ⟨rfl, hd⟩
    have oR1 := oR.dr hd
    go_wp2_with (first | (refine bld23z rfl rfl ?_) | (refine sto t23 rfl rfl rfl rfl oR1 (zs_length _) (zs_length _) ?_))
    exact res2 t23 rfl rfl rfl (oR1.row _) (zs_length _) rfl ⟨JIs.no HK.out, below_row (below_dr bW hd) (Nat.le_refl _) _⟩
  · rw [hk] at hr
    have HK := Lib.hid hk
    have ha := fun w h1 h2 h3 => rat3 cap 0 b o S T U w (by omega) bS bT bU lS lT lU h1 h2 h3 (dup_of_ok hk)
    clear hk
    have hl : (Sx.at3 S T U 0).length = 32 := Sx.tab_length _
    generalize hJ : Sx.at3 S T U 0 = J at *
    have HJ := Lib.hid hJ
    clear hJ
    go_enter Try.func15, Try.ntmps15
    go_wp2_with (refine alz z23 rfl rfl ?_)
    refine hr.mono ?_
    rintro e w1 ⟨rfl, hd⟩
    go_wp2_with fail
    refine (ha w1 (rS.dr hd) (rT.dr hd) (rU.dr hd)).mono ?_
    rintro e w2 ⟨rfl, hb⟩
    have oR1 := (oR.dr hd).below hb
    go_wp2_with (refine sto t23 rfl rfl rfl rfl oR1 (zs_length _) hl ?_)
    refine res2 t23 rfl rfl rfl (oR1.row _) hl rfl ⟨by rw [← HJ.out]; exact JIs.yes HK.out, below_row ((below_dr bW hd).trans (hb.mono (below_dr bW hd).size)) (Nat.le_refl _) _⟩
end Go.Proofs.Ytmnenjgipkopdaa
