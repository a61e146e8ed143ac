/-
  THE WALK of the code's Join.
-/
import Derived.Test.YtgfnpemonpebpaaFt
namespace Go.Proofs.Ytgfnpemonpebpaa
open Go.RowKit
set_option linter.unusedVariables false
set_option linter.unusedSimpArgs false
def num (acc : List (Int × ByteArray)) (i : Nat) : Nat := (acc.getD i (0, ⟨#[]⟩)).1.toNat
def txt (acc : List (Int × ByteArray)) (i : Nat) : ByteArray := (acc.getD i (0, ⟨#[]⟩)).2
/-- the text that three parts tell -/
def toldA (acc : List (Int × ByteArray)) (n size : Nat) : List Nat := Pa.told (num acc 0) (num acc 1) (num acc 2) (toN (txt acc 0)) (toN (txt acc 1)) (toN (txt acc 2)) n size
/-- what any parts tell -/
def joined (l : List (Int × ByteArray)) (size : Int) : ByteArray × Nat :=
  if size < 0 ∨ 65536 < size then (⟨#[]⟩, 2) else if (pick (Pa.cnt size.toNat) [] l).2 ≠ 0 then (⟨#[]⟩, (pick (Pa.cnt size.toNat) [] l).2)
  else (bs (toldA (pick (Pa.cnt size.toNat) [] l).1 (Pa.cnt size.toNat) size.toNat), 0)
/-- parts with unlike numbers, of one size -/
def Good (n : Nat) (acc : List (Int × ByteArray)) : Prop := acc.length ≤ 3 ∧ (∀ p ∈ acc, 1 ≤ p.1 ∧ p.1 ≤ 5 ∧ p.2.size = n) ∧ acc.Pairwise (fun p q => p.1 ≠ q.1)
theorem met_iff (acc : List (Int × ByteArray)) (I : Int) : met acc I = true ↔ ∃ p ∈ acc, p.1 = I := by simp [met]
theorem pick_good {n : Nat} : ∀ (l acc : List (Int × ByteArray)), Good n acc → Good n (pick n acc l).1 ∧ ((pick n acc l).2 = 0 → (pick n acc l).1.length = 3)
  | [], acc, h => by
    refine ⟨h, fun h0 => ?_⟩
    simp only [pick] at h0 ⊢
    split at h0
    · omega
    · have := h.1; omega
  | p :: t, acc, h => by
    rw [pick]
    split
    · exact ⟨h, fun _ => by assumption⟩
    · split
      · exact ⟨h, fun h0 => by simp at h0⟩
      · split
        · exact pick_good t acc h
        · split
          · exact ⟨h, fun h0 => by simp at h0⟩
          · rename_i g1 g2 g3 g4
            refine pick_good t (acc ++ [p]) ⟨by have := h.1; simp; omega, ?_, ?_⟩
            · intro q hq
              rcases List.mem_append.1 hq with hq | hq
              · exact h.2.1 q hq
              · simp at hq; subst hq
                exact ⟨by omega, by omega, by simpa using g4⟩
            · rw [List.pairwise_append]
              refine ⟨h.2.2, by simp, fun a ha b hb => ?_⟩
              simp at hb; subst hb
              intro e
              exact g3 ((met_iff _ _).2 ⟨a, ha, e⟩)
theorem good_nil (n : Nat) : Good n [] := ⟨by simp, by simp, by simp⟩
theorem good_three {n : Nat} {acc : List (Int × ByteArray)} (h : Good n acc) (h3 : acc.length = 3) :
    (num acc 0 < 256 ∧ num acc 1 < 256 ∧ num acc 2 < 256) ∧ (num acc 0 ≠ num acc 1 ∧ num acc 0 ≠ num acc 2 ∧ num acc 1 ≠ num acc 2) ∧ ((txt acc 0).size = n ∧ (txt acc 1).size = n ∧ (txt acc 2).size = n) ∧
    xsv acc = [num acc 0, num acc 1, num acc 2] ∧ rws acc = #[.string (txt acc 0), .string (txt acc 1), .string (txt acc 2)] := by
  match acc, h3 with
  | [p, q, r], _ =>
    obtain ⟨_, h1, h2⟩ := h
    have hp := h1 p (by simp)
    have hq := h1 q (by simp)
    have hr := h1 r (by simp)
    simp only [List.pairwise_cons, List.mem_cons, List.not_mem_nil, or_false, forall_eq_or_imp, forall_eq] at h2
    simp only [num, txt, List.getD_cons_zero, List.getD_cons_succ]
    refine ⟨⟨by omega, by omega, by omega⟩, ⟨by omega, by omega, by omega⟩, ⟨hp.2.2, hq.2.2, hr.2.2⟩, rfl, rfl⟩
theorem bs_append (a b : List Nat) : bs (a ++ b) = bs a ++ bs b := by
  apply ByteArray.ext
  simp [bs]
theorem bs_take (L : List Nat) (k : Nat) : (bs L).extract 0 k = bs (L.take k) := by
  apply ByteArray.ext
  rw [ByteArray.data_extract]
  simp [bs]
theorem siz49 : (Try.prog.info? 49).map (·.size) = some 3 := by kernel_rfl
theorem sz1 (w : World) (o : Obj) : w.heap.size + 1 = (w.alloc o).heap.size := (Array.size_push ..).symm
set_option maxRecDepth 100000 in
set_option maxHeartbeats 4000000 in
theorem cjoin_any (A : Option Addr) (m cap : Nat) (l : List (Int × ByteArray)) (size : Int) (w : World) (hm : l.length = m) (hmx : m ≤ 100000) (hl : Ps w A l) (hs1 : -9223372036854775808 ≤ size) (hs2 : size ≤ 9223372036854775807) :
    Calls Try.prog 15 #[.slice A m cap, .int .i64 size] w fun e w' => e = .returned (.tuple #[.string (joined l size).1, .int .i64 ((joined l size).2 : Nat)]) ∧ Below w.heap.size w w' := by
  by_cases h0 : size < 0
  · have e : joined l size = (⟨#[]⟩, 2) := by unfold joined; rw [if_pos (Or.inl h0)]
    rw [e]
    go_enter Try.func15, Try.ntmps15
    go_wp2_with fail
    go_ret2
    exact ⟨rfl, Below.refl _ _⟩
  · by_cases h6 : 65536 < size
    · have e : joined l size = (⟨#[]⟩, 2) := by unfold joined; rw [if_pos (Or.inr h6)]
      rw [e]
      go_enter Try.func15, Try.ntmps15
      go_wp2_with fail
      go_ret2
      exact ⟨rfl, Below.refl _ _⟩
    · obtain ⟨z, rfl⟩ : ∃ z : Nat, size = (z : Int) := ⟨size.toNat, by omega⟩
      obtain ⟨n, hn⟩ : ∃ n, n = Pa.cnt z := ⟨_, rfl⟩
      have hn3 : n ≤ 30000 := by rw [hn]; unfold Pa.cnt; omega
      have hzn : z ≤ n + n + n := by rw [hn]; exact Pa.cnt_three z
      have hr := fun w => crows_any (z : Int) (by omega) (by omega) w
      simp only [rowsI_nat] at hr
      rw [← hn] at hr
      have hf := first_any A m cap n l
      have hg := pick_good (n := n) l [] (good_nil n)
      have hJ : joined l (z : Int) = if (pick n [] l).2 ≠ 0 then (⟨#[]⟩, (pick n [] l).2) else (bs (toldA (pick n [] l).1 n z), 0) := by
        unfold joined; rw [if_neg (by omega), Int.toNat_natCast, ← hn]
      generalize pick n [] l = P at *
      obtain ⟨acc, code⟩ := P
      simp only at hf hg hJ
      have lx := xsv_length hg.1.1
      have lr := rws_size hg.1.1
      have HN := Lib.hid hn
      clear hn
      by_cases hc : code = 0
      · obtain ⟨⟨a8, b8, c8⟩, ⟨h12, h13, h23⟩, ⟨s0, s1, s2⟩, ex, er⟩ := good_three hg.1 (hg.2 hc)
        rw [if_neg (by rw [hc]; simp)] at hJ
        rw [hJ]
        have e0 : toldA acc n z = (Pa.row (num acc 0) (num acc 1) (num acc 2) (toN (txt acc 0)) (toN (txt acc 1)) (toN (txt acc 2)) n 1 ++ Pa.row (num acc 0) (num acc 1) (num acc 2) (toN (txt acc 0)) (toN (txt acc 1)) (toN (txt acc 2)) n 2 ++ Pa.row (num acc 0) (num acc 1) (num acc 2) (toN (txt acc 0)) (toN (txt acc 1)) (toN (txt acc 2)) n 3).take z := rfl
        rw [e0, ← bs_take, bs_append, bs_append]
        subst hc
        have hat := fun X (hX : X < 256) w => cat_any (num acc 0) (num acc 1) (num acc 2) X a8 b8 c8 hX h12 h13 h23 (txt acc 0) (txt acc 1) (txt acc 2) (by omega) (by omega) (by omega) w
        rw [s0] at hat
        have q1 : (bs (Pa.row (num acc 0) (num acc 1) (num acc 2) (toN (txt acc 0)) (toN (txt acc 1)) (toN (txt acc 2)) n 1)).size = n := by rw [bs_size, Pa.row_length]
        have q2 : (bs (Pa.row (num acc 0) (num acc 1) (num acc 2) (toN (txt acc 0)) (toN (txt acc 1)) (toN (txt acc 2)) n 2)).size = n := by rw [bs_size, Pa.row_length]
        have q3 : (bs (Pa.row (num acc 0) (num acc 1) (num acc 2) (toN (txt acc 0)) (toN (txt acc 1)) (toN (txt acc 2)) n 3)).size = n := by rw [bs_size, Pa.row_length]
        generalize num acc 0 = a at *
        generalize num acc 1 = b at *
        generalize num acc 2 = c at *
        generalize txt acc 0 = R0 at *
        generalize txt acc 1 = R1 at *
        generalize txt acc 2 = R2 at *
        generalize hX1 : bs (Pa.row a b c (toN R0) (toN R1) (toN R2) n 1) = X1 at *
        generalize hX2 : bs (Pa.row a b c (toN R0) (toN R1) (toN R2) n 2) = X2 at *
        generalize hX3 : bs (Pa.row a b c (toN R0) (toN R1) (toN R2) n 3) = X3 at *
        have HE := Lib.hid (And.intro ex er)
        have g1 := hat 1 (by omega)
        have g2 := hat 2 (by omega)
        have g3 := hat 3 (by omega)
        rw [hX1] at g1
        rw [hX2] at g2
        rw [hX3] at g3
        have z1 : X1.size + X2.size ≤ 9223372036854775807 := by omega
        have z2 : (X1 ++ X2).size + X3.size ≤ 9223372036854775807 := by rw [ByteArray.size_append]; omega
        have z3 : (z : Int) ≤ ((X1 ++ X2 ++ X3).size : Int) := by rw [ByteArray.size_append, ByteArray.size_append]; omega
        have z4 : (z : Int) ≤ (X1.size : Int) + (X2.size : Int) + (X3.size : Int) := by omega
        have z5 : X1.size + X2.size + X3.size ≤ 9223372036854775807 := by omega
        have z6 : z ≤ X1.size + X2.size + X3.size := by omega
        have HX := Lib.hid (And.intro hX1 (And.intro hX2 (And.intro hX3 (And.intro hJ (And.intro e0 hg)))))
        clear hX1 hX2 hX3 hat hJ e0 hg ex er s0 s1 s2 q1 q2 q3 h12 h13 h23 a8 b8 c8
        go_enter Try.func15, Try.ntmps15
        go_wp2_with (first | (go_at_call 13; refine (hr _).mono ?_; rintro e w' ⟨rfl, rfl⟩) | (go_at_call 21; refine (hf _ hm hmx hl).mono ?_; rintro e w1 ⟨rfl, hb⟩; have o6 := (Own.new w1 34 (vs (zs 3))).alloc (Obj.cells #[.string ⟨#[]⟩, .string ⟨#[]⟩, .string ⟨#[]⟩] 49); have o7 := (Own.new' (w1.alloc (Obj.cells (vs (zs 3)) 34)) 49 #[.string ⟨#[]⟩, .string ⟨#[]⟩, .string ⟨#[]⟩] (sz1 _ _)).rowOther w1.heap.size (vs (xsv acc)) (by omega)) | (refine alz z34 rfl rfl ?_) | (refine sto t34 rfl rfl rfl rfl o6 (zs_length 3) lx ?_) | (refine wpList_store_row rfl 49 _ _ rfl (w1.heap.size + 1) (rws acc) rfl rfl 49 _ o7 (by rw [lr]; kernel_rfl) (by rw [lr]; rfl) (rws_one _) ?_))
        have p6 := (o6.row (vs (xsv acc))).rowOther (w1.heap.size + 1) (rws acc) (by omega)
        have p7 := o7.row (rws acc)
        have bW := below_row (below_row ((hb.alloc hb.size (Obj.cells (vs (zs 3)) 34)).alloc (by rw [World.size_alloc]; have := hb.size; omega) (Obj.cells #[.string ⟨#[]⟩, .string ⟨#[]⟩, .string ⟨#[]⟩] 49)) hb.size (vs (xsv acc))) (by have := hb.size; omega : w.heap.size ≤ w1.heap.size + 1) (rws acc)
        clear o6 o7
        generalize (((w1.alloc (Obj.cells (vs (zs 3)) 34)).alloc (Obj.cells #[.string ⟨#[]⟩, .string ⟨#[]⟩, .string ⟨#[]⟩] 49)).setRow w1.heap.size (vs (xsv acc))).setRow (w1.heap.size + 1) (rws acc) = wz at *
        rw [HE.out.1] at p6
        rw [HE.out.2] at p7
        have r6 := p6.rg
        replace r6 := r6.drew
        replace p7 := p7.drew
        replace bW := bW.drew
        refine wp_region_held_drew (S := fun w' => Below wz.drew.heap.size wz.drew w') (by kernel_rfl) (Below.refl _ _) (fun hH => ?_)
        generalize wz.drew = x0 at *
        refine tkH (i := 0) rfl (by kernel_rfl) (by kernel_rfl) (by kernel_rfl) (fun _ _ _ h => h) hH (yld t34 (by rfl) rfl rfl [a, b, c] r6 rfl) ?_
        try simp only [Act.put, List.setIfInBounds_toArray, List.set_cons_zero, List.set_cons_succ]
        refine tkH (i := 1) rfl (by kernel_rfl) (by kernel_rfl) (by kernel_rfl) (fun _ _ _ h => h) hH (yld49 (by rfl) rfl rfl #[.string R0, .string R1, .string R2] (fun w h => p7.below h) rfl) ?_
        try simp only [Act.put, List.setIfInBounds_toArray, List.set_cons_zero, List.set_cons_succ]
        refine tkH (i := 3) rfl (by kernel_rfl) (by kernel_rfl) (by kernel_rfl) (fun _ _ _ h => h) hH (yld t34 (by rfl) rfl rfl [a, b, c] r6 rfl) ?_
        try simp only [Act.put, List.setIfInBounds_toArray, List.set_cons_zero, List.set_cons_succ]
        refine tkH (i := 4) rfl (by kernel_rfl) (by kernel_rfl) (by kernel_rfl) (fun _ _ _ h => h) hH (yld49 (by rfl) rfl rfl #[.string R0, .string R1, .string R2] (fun w h => p7.below h) rfl) ?_
        try simp only [Act.put, List.setIfInBounds_toArray, List.set_cons_zero, List.set_cons_succ]
        refine tkH (i := 7) rfl (by kernel_rfl) (by kernel_rfl) (by kernel_rfl) (fun _ _ _ h => h) hH (yld t34 (by rfl) rfl rfl [a, b, c] r6 rfl) ?_
        try simp only [Act.put, List.setIfInBounds_toArray, List.set_cons_zero, List.set_cons_succ]
        refine tkH (i := 8) rfl (by kernel_rfl) (by kernel_rfl) (by kernel_rfl) (fun _ _ _ h => h) hH (yld49 (by rfl) rfl rfl #[.string R0, .string R1, .string R2] (fun w h => p7.below h) rfl) ?_
        try simp only [Act.put, List.setIfInBounds_toArray, List.set_cons_zero, List.set_cons_succ]
        refine efH (i := 2) rfl (by kernel_rfl) (by rfl) (fun KK hKK => ?_)
        go_simp
        refine (g1 _).mono ?_
        rintro e wa1 ⟨rfl, hx⟩
        have hH' := hH.trans (hx.mono hH.size)
        go_wp2_with fail
        refine hKK.out _ _ hH' (fun hH => ?_)
        clear hKK KK hH'
        try simp only [Act.put, List.setIfInBounds_toArray, List.set_cons_zero, List.set_cons_succ]
        refine efH (i := 5) rfl (by kernel_rfl) (by rfl) (fun KK hKK => ?_)
        go_simp
        refine (g2 _).mono ?_
        rintro e wa2 ⟨rfl, hx⟩
        have hH' := hH.trans (hx.mono hH.size)
        go_wp2_with fail
        refine hKK.out _ _ hH' (fun hH => ?_)
        clear hKK KK hH'
        try simp only [Act.put, List.setIfInBounds_toArray, List.set_cons_zero, List.set_cons_succ]
        refine tkH (v := ?_) (i := 6) rfl (by kernel_rfl) (by kernel_rfl) (by kernel_rfl) (fun _ _ _ h => h) hH (Or.inl ⟨by rfl, ?_⟩) ?_
        rotate_left
        · intro wq hq
          go_simp
          try (first | (rw [if_neg (show ¬ 9223372036854775807 < X1.size + X2.size by omega)]) | (rw [if_neg (show ¬ 9223372036854775807 < X1.size + X2.size + X3.size by omega)]))
        try simp only [Act.put, List.setIfInBounds_toArray, List.set_cons_zero, List.set_cons_succ]
        refine efH (i := 9) rfl (by kernel_rfl) (by rfl) (fun KK hKK => ?_)
        go_simp
        refine (g3 _).mono ?_
        rintro e wa3 ⟨rfl, hx⟩
        have hH' := hH.trans (hx.mono hH.size)
        go_wp2_with fail
        refine hKK.out _ _ hH' (fun hH => ?_)
        clear hKK KK hH'
        try simp only [Act.put, List.setIfInBounds_toArray, List.set_cons_zero, List.set_cons_succ]
        refine tkH (v := ?_) (i := 10) rfl (by kernel_rfl) (by kernel_rfl) (by kernel_rfl) (fun _ _ _ h => h) hH (Or.inl ⟨by rfl, ?_⟩) ?_
        rotate_left
        · intro wq hq
          go_simp
          try (first | (rw [if_neg (show ¬ 9223372036854775807 < X1.size + X2.size by omega)]) | (rw [if_neg (show ¬ 9223372036854775807 < X1.size + X2.size + X3.size by omega)]))
        try simp only [Act.put, List.setIfInBounds_toArray, List.set_cons_zero, List.set_cons_succ]
        refine tkH (v := ?_) (i := 11) rfl (by kernel_rfl) (by kernel_rfl) (by kernel_rfl) (fun _ _ _ h => h) hH (Or.inl ⟨by rfl, ?_⟩) ?_
        rotate_left
        · intro wq hq
          go_simp
          try rfl
        try simp only [Act.put, List.setIfInBounds_toArray, List.set_cons_zero, List.set_cons_succ]
        refine wpAnyH_done (by kernel_rfl) ?_ _
        try simp only [Act.put, List.getElem_toArray, List.getElem_cons_zero, List.getElem_cons_succ, List.setIfInBounds_toArray, List.set_cons_zero, List.set_cons_succ]
        have bZ := bW.trans (hH.mono bW.size)
        go_wp2_with fail
        go_ret2
        exact ⟨rfl, bZ⟩
      · have e : joined l (z : Int) = (⟨#[]⟩, code) := by rw [hJ, if_pos hc]
        rw [e]
        have t1 : ((code : Int) != 0) = true := by rw [bne_iff_ne]; omega
        have HC := Lib.hid (And.intro hg hc)
        clear hJ e hg hc
        go_enter Try.func15, Try.ntmps15
        go_wp2_with (first | (go_at_call 13; refine (hr _).mono ?_; rintro e w' ⟨rfl, rfl⟩) | (go_at_call 21; refine (hf _ hm hmx hl).mono ?_; rintro e w1 ⟨rfl, hb⟩; have o6 := (Own.new w1 34 (vs (zs 3))).alloc (Obj.cells #[.string ⟨#[]⟩, .string ⟨#[]⟩, .string ⟨#[]⟩] 49); have o7 := (Own.new' (w1.alloc (Obj.cells (vs (zs 3)) 34)) 49 #[.string ⟨#[]⟩, .string ⟨#[]⟩, .string ⟨#[]⟩] (sz1 _ _)).rowOther w1.heap.size (vs (xsv acc)) (by omega)) | (refine alz z34 rfl rfl ?_) | (refine sto t34 rfl rfl rfl rfl o6 (zs_length 3) lx ?_) | (refine wpList_store_row rfl 49 _ _ rfl (w1.heap.size + 1) (rws acc) rfl rfl 49 _ o7 (by rw [lr]; kernel_rfl) (by rw [lr]; rfl) (rws_one _) ?_))
        go_ret2
        refine ⟨rfl, ?_⟩
        exact below_row (below_row ((hb.alloc hb.size _).alloc (by rw [World.size_alloc]; have := hb.size; omega) _) hb.size _) (by have := hb.size; omega) _
end Go.Proofs.Ytgfnpemonpebpaa
