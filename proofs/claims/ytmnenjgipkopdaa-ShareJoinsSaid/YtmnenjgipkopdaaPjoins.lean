/-
  For every row of shares ShareJoins answers true: what they are joined to, or the error, is the document's, and the same in another order; the argument reads as before.
-/
import Derived.Test.YtmnenjgipkopdaaRows
import Derived.Test.YtmnenjgipkopdaaOk
import Derived.WalkKit
import Derived.ProofKit
import Derived.OpenShut
import Derived.ShutString
import Derived.Test.YtmnenjgipkopdaaOs
import Derived.Test.YtmnenjgipkopdaaJc
namespace Go.Proofs.Ytmnenjgipkopdaa.shareJoins
open Go.ChangeShapes Go.WideShapes Go.ChangeAt Go.RowKit
open Go.ChangeMaps (open_string shut_string)
set_option linter.unusedVariables false
set_option linter.unusedSimpArgs false

theorem own : ownKnob Try.prog.godebug = none := by kernel_rfl
theorem ldw {ty : TypeId} {n : Nat} (T : AggT ty n) {ops : Array Oper} {rest : List Oper} {o : Oper} {a : Act} {w : World} {Q : Exit → Act → World → Prop} {x : Operand} {b f : Nat} {l : List Nat}
    (hgd : Region.wanted o (yielded ops a.tmps) = true) (ho : o.op = .load ty x) (hx : a.eval x = .pointer (some ⟨b, f, none⟩)) (hg : Rg w b f l) (hl : l.length = n)
    (h : wpList Try.prog ops Q rest (a.put o.dst (.agg (vs l))) w) : wpList Try.prog ops Q (o :: rest) a w := by
  show (if Region.wanted o (yielded ops a.tmps) then o.wp Try.prog a w (wpList Try.prog ops Q rest) Q ∨ (o.asks Try.prog a w ∧ LetsOut Q) else wpList Try.prog ops Q rest (a.put o.dst undef) w)
  rw [if_pos hgd]
  refine .inl ?_
  unfold Oper.wp
  rw [exec_ld T ho hx hg hl]
  exact h
theorem zs_bytes (n : Nat) : Gf.Bytes (zs n) := fun x hx => by have := List.eq_of_mem_replicate hx; omega
theorem jis_no {S T U : List Nat} {E : Ending} (h : Sx.ok3 (Gf.nth S 0) (Gf.nth T 0) (Gf.nth U 0) = false) (hj : JIs S T U E) : E = .returned (.tuple #[.agg (vs (zs 32)), .int .i64 1]) := by unfold JIs at hj; rw [if_neg (by rw [h]; simp)] at hj; exact hj
theorem jis_yes {S T U : List Nat} {E : Ending} (h : Sx.ok3 (Gf.nth S 0) (Gf.nth T 0) (Gf.nth U 0) = true) (hj : JIs S T U E) : E = .returned (.tuple #[.agg (vs (Sx.at3 S T U 0)), .int .i64 0]) := by unfold JIs at hj; rw [if_pos h] at hj; exact hj
set_option maxRecDepth 100000 in
set_option maxHeartbeats 8000000 in
theorem walk_bad (A : Option Addr) (n cap : Nat) (l : List (List Nat)) (W : World) (hs : Ss W A n l) (hn : n ≤ 10)
    (hj : ∀ w, Ss w A n l → Calls Try.prog 14 #[.slice A n cap] w fun e w' => e = .returned (.tuple #[.agg (vs (zs 32)), .int .i64 1]) ∧ Below w.heap.size w w')
    (hr : ∀ w, Ss w A n l → Calls Try.prog 15 #[.slice A n cap] w fun e w' => e = .returned (.tuple #[.agg (vs (zs 32)), .int .i64 1]) ∧ Below w.heap.size w w') :
    Calls Try.prog 4 #[.slice A n cap] W fun e w' => e = .returned (.bool true) ∧ Below W.heap.size W w' := by
  have hal := alive_any W
  have d0 : decide ((10 : Int) < (n : Int)) = false := by rw [decide_eq_false_iff_not]; omega
  have lz := zs_length 32
  have bz := zs_bytes 32
  generalize zs 32 = Z at *
  have HJ := Lib.hid (And.intro hj hr)
  clear hj hr
  go_enter Try.func4, Try.ntmps4
  go_wp2_with fail
  refine hal.mono ?_
  rintro e w1 ⟨rfl, hb1⟩
  replace hs := hs.below hb1
  go_wp2_with fail
  refine (HJ.out.1 _ hs).mono ?_
  rintro e w2 ⟨rfl, hb2⟩
  replace hs := (hs.below hb2).alloc (Obj.cells (vs Z) 23)
  have o3 := Own.new w2 23 (vs Z)
  have b2 := (hb1.trans (hb2.mono hb1.size)).alloc (by have := hb1.size; have := hb2.size; omega) (Obj.cells (vs Z) 23)
  go_wp2_with (first | (refine alz z23 rfl rfl ?_) | (refine sto_new t23 rfl rfl rfl rfl rfl ((vs_size _).trans (zs_length _)) lz ?_))
  generalize w2.alloc (Obj.cells (vs Z) 23) = w3 at *
  generalize w2.heap.size = g3 at *
  refine (HJ.out.2 _ hs).mono ?_
  rintro e w4 ⟨rfl, hb4⟩
  have o3' := (o3.below hb4).alloc (Obj.cells (vs Z) 23)
  have o5 := Own.new w4 23 (vs Z)
  have b4 := (b2.trans (hb4.mono b2.size)).alloc (by have := b2.size; have := hb4.size; omega) (Obj.cells (vs Z) 23)
  have r3 := o3'.rg
  have r5 := o5.rg
  have e1 : decide (Z = Z) = true := decide_eq_true rfl
  clear hs hb1 hb2 hb4 o3 o3' o5 b2
  go_wp2_with (first | (refine alz z23 rfl rfl ?_) | (refine sto_new t23 rfl rfl rfl rfl rfl ((vs_size _).trans (zs_length _)) lz ?_) | (refine ld t23 rfl rfl rfl r3 lz ?_) | (refine ld t23 rfl rfl rfl r5 lz ?_) | (refine cmpw cmp23 true Z Z rfl rfl rfl rfl lz lz bz bz ?_))
  go_ret
  exact ⟨rfl, b4⟩
set_option maxRecDepth 100000 in
set_option maxHeartbeats 8000000 in
theorem walk_good (b o cap : Nat) (S T U : List Nat) (W : World) (hs : Ss W (some ⟨b, o, none⟩) 3 [S, T, U]) (lS : S.length = 33) (lT : T.length = 33) (lU : U.length = 33) (bS : Gf.Bytes S) (bT : Gf.Bytes T) (bU : Gf.Bytes U) (hk : Sx.ok3 (Gf.nth S 0) (Gf.nth T 0) (Gf.nth U 0) = true) :
    Calls Try.prog 4 #[.slice (some ⟨b, o, none⟩) 3 cap] W fun e w' => e = .returned (.bool true) ∧ Below W.heap.size W w' := by
  have hal := alive_any W
  have h6 := (Sx.ok3_iff _ _ _).1 hk
  have hp1 : Sx.at3 U S T 0 = Sx.at3 S T U 0 := Sx.at3_perm bS bT bU h6.2.2.2.1 h6.2.2.2.2.1 h6.2.2.2.2.2 (.inl ⟨rfl, rfl, rfl⟩) 0 (by omega)
  have hp2 : Sx.at3 T S U 0 = Sx.at3 S T U 0 := Sx.at3_perm bS bT bU h6.2.2.2.1 h6.2.2.2.2.1 h6.2.2.2.2.2 (.inr ⟨rfl, rfl, rfl⟩) 0 (by omega)
  have k1 : Sx.ok3 (Gf.nth U 0) (Gf.nth S 0) (Gf.nth T 0) = true := (Sx.ok3_iff _ _ _).2 ⟨h6.2.2.1, h6.1, h6.2.1, Ne.symm h6.2.2.2.2.1, Ne.symm h6.2.2.2.2.2, h6.2.2.2.1⟩
  have k2 : Sx.ok3 (Gf.nth T 0) (Gf.nth S 0) (Gf.nth U 0) = true := (Sx.ok3_iff _ _ _).2 ⟨h6.2.1, h6.1, h6.2.2.1, Ne.symm h6.2.2.2.1, h6.2.2.2.2.2, h6.2.2.2.2.1⟩
  have lz : (Sx.at3 S T U 0).length = 32 := Sx.tab_length _
  have bz := Sx.at3_bytes bS bT bU 0 (by omega)
  have hj : ∀ w, Ss w (some ⟨b, o, none⟩) 3 [S, T, U] → Calls Try.prog 14 #[.slice (some ⟨b, o, none⟩) 3 cap] w fun e w' => e = .returned (.tuple #[.agg (vs (Sx.at3 S T U 0)), .int .i64 0]) ∧ Below w.heap.size w w' := fun w h => (sjoin3 _ cap S T U w h).mono fun e w' hh => ⟨jis_yes hk hh.1, hh.2⟩
  have hr : ∀ w, Ss w (some ⟨b, o, none⟩) 3 [S, T, U] → Calls Try.prog 15 #[.slice (some ⟨b, o, none⟩) 3 cap] w fun e w' => e = .returned (.tuple #[.agg (vs (Sx.at3 S T U 0)), .int .i64 0]) ∧ Below w.heap.size w w' := fun w h => (rjoin3 _ cap S T U w h).mono fun e w' hh => ⟨jis_yes hk hh.1, hh.2⟩
  have hj1 : ∀ A w, Ss w A 3 [U, S, T] → Calls Try.prog 14 #[.slice A 3 3] w fun e w' => e = .returned (.tuple #[.agg (vs (Sx.at3 S T U 0)), .int .i64 0]) ∧ Below w.heap.size w w' := fun A w h => (sjoin3 A 3 U S T w h).mono fun e w' hh => ⟨by rw [jis_yes k1 hh.1, hp1], hh.2⟩
  have hj2 : ∀ A w, Ss w A 3 [T, S, U] → Calls Try.prog 14 #[.slice A 3 3] w fun e w' => e = .returned (.tuple #[.agg (vs (Sx.at3 S T U 0)), .int .i64 0]) ∧ Below w.heap.size w w' := fun A w h => (sjoin3 A 3 T S U w h).mono fun e w' hh => ⟨by rw [jis_yes k2 hh.1, hp2], hh.2⟩
  generalize Sx.at3 S T U 0 = Z at *
  have HJ := Lib.hid (And.intro hj (And.intro hr (And.intro hj1 hj2)))
  have HB := Lib.hid (And.intro bS (And.intro bT bU))
  clear hj hr hj1 hj2 hp1 hp2 k1 k2 h6 hk bS bT bU
  go_enter Try.func4, Try.ntmps4
  go_wp2_with fail
  refine hal.mono ?_
  rintro e w1 ⟨rfl, hb1⟩
  replace hs := hs.below hb1
  go_wp2_with fail
  refine (HJ.out.1 _ hs).mono ?_
  rintro e w2 ⟨rfl, hb2⟩
  replace hs := (hs.below hb2).alloc (Obj.cells (vs Z) 23)
  have o3 := Own.new w2 23 (vs Z)
  have b2 := (hb1.trans (hb2.mono hb1.size)).alloc (by have := hb1.size; have := hb2.size; omega) (Obj.cells (vs Z) 23)
  go_wp2_with (first | (refine alz z23 rfl rfl ?_) | (refine sto_new t23 rfl rfl rfl rfl rfl ((vs_size _).trans (zs_length _)) lz ?_))
  generalize w2.alloc (Obj.cells (vs Z) 23) = w3 at *
  generalize w2.heap.size = g3 at *
  refine (HJ.out.2.1 _ hs).mono ?_
  rintro e w4 ⟨rfl, hb4⟩
  replace hs := (hs.below hb4).alloc (Obj.cells (vs Z) 23)
  have o3' := (o3.below hb4).alloc (Obj.cells (vs Z) 23)
  have o5 := Own.new w4 23 (vs Z)
  have b4 := (b2.trans (hb4.mono b2.size)).alloc (by have := b2.size; have := hb4.size; omega) (Obj.cells (vs Z) 23)
  have r3 := o3'.rg
  have r5 := o5.rg
  have e1 : decide (Z = Z) = true := decide_eq_true rfl
  clear hb1 hb2 hb4 o3 o3' o5 b2
  go_wp2_with (first | (refine alz z23 rfl rfl ?_) | (refine sto_new t23 rfl rfl rfl rfl rfl ((vs_size _).trans (zs_length _)) lz ?_) | (refine ld t23 rfl rfl rfl r3 lz ?_) | (refine ld t23 rfl rfl rfl r5 lz ?_) | (refine cmpw cmp23 true Z Z rfl rfl rfl rfl lz lz bz bz ?_))
  generalize w4.alloc (Obj.cells (vs Z) 23) = w5 at *
  obtain ⟨_, _, _, _, _, he, _, _, _, _, _, _, hA, rS, rT, rU⟩ := ss3 hs
  injection he with he1 he
  injection he with he2 he
  injection he with he3 _
  injection hA with hA
  injection hA with hA1 hA2 _
  subst he1 he2 he3 hA1 hA2
  clear hs r5
  replace rS := rS.drew
  replace rT := rT.drew
  replace rU := rU.drew
  replace b4 := b4.drew
  replace r3 := r3.drew
  refine wp_region_held_drew (S := fun w' => Below w5.drew.heap.size w5.drew w') (by kernel_rfl) (Below.refl _ _) (fun hH => ?_)
  generalize w5.drew = x0 at *
  refine tkH (v := ?_) (i := 0) rfl (by kernel_rfl) (by kernel_rfl) (by kernel_rfl) (fun _ _ _ h => h) hH (Or.inl ⟨by rfl, ?_⟩) ?_
  rotate_left
  · intro wq hq
    go_simp
    try rfl
  try simp only [Act.put, List.setIfInBounds_toArray, List.set_cons_zero, List.set_cons_succ]
  refine tkH (v := ?_) (i := 1) rfl (by kernel_rfl) (by kernel_rfl) (by kernel_rfl) (fun _ _ _ h => h) hH (Or.inl ⟨by rfl, ?_⟩) ?_
  rotate_left
  · intro wq hq
    go_simp
    try rfl
  try simp only [Act.put, List.setIfInBounds_toArray, List.set_cons_zero, List.set_cons_succ]
  refine tkH (i := 2) rfl (by kernel_rfl) (by kernel_rfl) (by kernel_rfl) (fun _ _ _ h => h) hH (yld t34 (by rfl) rfl rfl U rU lU) ?_
  try simp only [Act.put, List.setIfInBounds_toArray, List.set_cons_zero, List.set_cons_succ]
  refine tkH (v := ?_) (i := 3) rfl (by kernel_rfl) (by kernel_rfl) (by kernel_rfl) (fun _ _ _ h => h) hH (Or.inl ⟨by rfl, ?_⟩) ?_
  rotate_left
  · intro wq hq
    go_simp
    try rfl
  try simp only [Act.put, List.setIfInBounds_toArray, List.set_cons_zero, List.set_cons_succ]
  refine tkH (v := ?_) (i := 4) rfl (by kernel_rfl) (by kernel_rfl) (by kernel_rfl) (fun _ _ _ h => h) hH (Or.inl ⟨by rfl, ?_⟩) ?_
  rotate_left
  · intro wq hq
    go_simp
    try rfl
  try simp only [Act.put, List.setIfInBounds_toArray, List.set_cons_zero, List.set_cons_succ]
  refine tkH (i := 5) rfl (by kernel_rfl) (by kernel_rfl) (by kernel_rfl) (fun _ _ _ h => h) hH (yld t34 (by rfl) rfl rfl S rS lS) ?_
  try simp only [Act.put, List.setIfInBounds_toArray, List.set_cons_zero, List.set_cons_succ]
  refine tkH (v := ?_) (i := 6) rfl (by kernel_rfl) (by kernel_rfl) (by kernel_rfl) (fun _ _ _ h => h) hH (Or.inl ⟨by rfl, ?_⟩) ?_
  rotate_left
  · intro wq hq
    go_simp
    try rfl
  try simp only [Act.put, List.setIfInBounds_toArray, List.set_cons_zero, List.set_cons_succ]
  refine tkH (v := ?_) (i := 7) rfl (by kernel_rfl) (by kernel_rfl) (by kernel_rfl) (fun _ _ _ h => h) hH (Or.inl ⟨by rfl, ?_⟩) ?_
  rotate_left
  · intro wq hq
    go_simp
    try rfl
  try simp only [Act.put, List.setIfInBounds_toArray, List.set_cons_zero, List.set_cons_succ]
  refine tkH (i := 8) rfl (by kernel_rfl) (by kernel_rfl) (by kernel_rfl) (fun _ _ _ h => h) hH (yld t34 (by rfl) rfl rfl T rT lT) ?_
  try simp only [Act.put, List.setIfInBounds_toArray, List.set_cons_zero, List.set_cons_succ]
  refine efH2 (i := 9) (j := 14) rfl rfl (by kernel_rfl) (by rfl) (by rfl) (fun KK hKK => ?_) (fun KK hKK => ?_)
  · refine wp_of_exec (exec_lit3 lU lS lT rfl rfl rfl rfl x0) ?_
    refine hKK.out _ _ (hH.alloc hH.size _) (fun hH => ?_)
    clear hKK KK
    try simp only [Act.put, List.setIfInBounds_toArray, List.set_cons_zero, List.set_cons_succ]
    have oL := Own.new x0 34 (vs [U, S, T].flatten)
    generalize x0.alloc (Obj.cells (vs [U, S, T].flatten) 34) = x1 at *
    refine efH2 (i := 10) (j := 14) rfl rfl (by kernel_rfl) (by rfl) (by rfl) (fun KK hKK => ?_) (fun KK hKK => ?_)
    · go_simp
      refine (HJ.out.2.2.1 _ _ (ss_lit lU lS lT HB.out.2.2 HB.out.1 HB.out.2.1 oL)).mono ?_
      rintro e x2 ⟨rfl, hx⟩
      have hH' := hH.trans (hx.mono hH.size)
      go_wp2_with fail
      refine hKK.out _ _ hH' (fun hH => ?_)
      clear hKK KK hH' hx oL
      try simp only [Act.put, List.setIfInBounds_toArray, List.set_cons_zero, List.set_cons_succ]
      refine tkH (v := ?_) (i := 11) rfl (by kernel_rfl) (by kernel_rfl) (by kernel_rfl) (fun _ _ _ h => h) hH (Or.inl ⟨by rfl, ?_⟩) ?_
      rotate_left
      · intro wq hq
        go_simp
        try rfl
      try simp only [Act.put, List.setIfInBounds_toArray, List.set_cons_zero, List.set_cons_succ]
      refine tkH (v := ?_) (i := 12) rfl (by kernel_rfl) (by kernel_rfl) (by kernel_rfl) (fun _ _ _ h => h) hH (Or.inl ⟨by rfl, ?_⟩) ?_
      rotate_left
      · intro wq hq
        go_simp
        try rfl
      try simp only [Act.put, List.setIfInBounds_toArray, List.set_cons_zero, List.set_cons_succ]
      refine tkH (v := ?_) (i := 13) rfl (by kernel_rfl) (by kernel_rfl) (by kernel_rfl) (fun _ _ _ h => h) hH (Or.inl ⟨by rfl, ?_⟩) ?_
      rotate_left
      · intro wq hq
        go_simp
        try rfl
      try simp only [Act.put, List.setIfInBounds_toArray, List.set_cons_zero, List.set_cons_succ]
      refine efH (i := 14) rfl (by kernel_rfl) (by rfl) (fun KK hKK => ?_)
      refine wp_of_exec (exec_new z23 rfl x2) ?_
      have hle := hH.size
      refine hKK.out _ _ (hH.alloc hH.size _) (fun hH => ?_)
      clear hKK KK
      try simp only [Act.put, List.setIfInBounds_toArray, List.set_cons_zero, List.set_cons_succ]
      have o7 := Own.new x2 23 (vs (zs 32))
      generalize x2.alloc (Obj.cells (vs (zs 32)) 23) = x3 at *
      refine efH (i := 15) rfl (by kernel_rfl) (by rfl) (fun KK hKK => ?_)
      refine wp_store_row 23 _ _ rfl x2.heap.size (vs Z) rfl rfl 23 (vs (zs 32)) o7 (by rw [t23.siz, vs_size, lz]) (by rw [vs_size, vs_size, zs_length, lz]) (vs_one _) ?_
      refine hKK.out _ _ (below_row hH hle _) (fun hH => ?_)
      clear hKK KK hle
      replace o7 := o7.row (vs Z)
      generalize x3.setRow x2.heap.size (vs Z) = xf at *
      try simp only [Act.put, List.setIfInBounds_toArray, List.set_cons_zero, List.set_cons_succ]
      refine tkH (v := ?_) (i := 16) rfl (by kernel_rfl) (by kernel_rfl) (by kernel_rfl) (fun _ _ _ h => h) hH (Or.inl ⟨by rfl, ?_⟩) ?_
      rotate_left
      · intro wq hq
        go_simp
        try rfl
      try simp only [Act.put, List.setIfInBounds_toArray, List.set_cons_zero, List.set_cons_succ]
      refine wpAnyH_done (by kernel_rfl) ?_ _
      try simp only [Act.put, List.getElem_toArray, List.getElem_cons_zero, List.getElem_cons_succ, List.setIfInBounds_toArray, List.set_cons_zero, List.set_cons_succ]
      replace r3 := r3.below hH
      replace rS := rS.below hH
      replace rT := rT.below hH
      replace rU := rU.below hH
      replace b4 := b4.trans (hH.mono b4.size)
      clear hH
      go_wp2_with fail
      replace rS := rS.drew
      replace rT := rT.drew
      replace rU := rU.drew
      replace b4 := b4.drew
      replace r3 := r3.drew
      replace o7 := o7.drew
      refine wp_region_held_drew (S := fun w' => Below xf.drew.heap.size xf.drew w') (by kernel_rfl) (Below.refl _ _) (fun hH => ?_)
      generalize xf.drew = y0 at *
      refine tkH (v := ?_) (i := 0) rfl (by kernel_rfl) (by kernel_rfl) (by kernel_rfl) (fun _ _ _ h => h) hH (Or.inl ⟨by rfl, ?_⟩) ?_
      rotate_left
      · intro wq hq
        go_simp
        try rfl
      try simp only [Act.put, List.setIfInBounds_toArray, List.set_cons_zero, List.set_cons_succ]
      refine tkH (v := ?_) (i := 1) rfl (by kernel_rfl) (by kernel_rfl) (by kernel_rfl) (fun _ _ _ h => h) hH (Or.inl ⟨by rfl, ?_⟩) ?_
      rotate_left
      · intro wq hq
        go_simp
        try rfl
      try simp only [Act.put, List.setIfInBounds_toArray, List.set_cons_zero, List.set_cons_succ]
      refine tkH (i := 2) rfl (by kernel_rfl) (by kernel_rfl) (by kernel_rfl) (fun _ _ _ h => h) hH (yld t34 (by rfl) rfl rfl T rT lT) ?_
      try simp only [Act.put, List.setIfInBounds_toArray, List.set_cons_zero, List.set_cons_succ]
      refine tkH (v := ?_) (i := 3) rfl (by kernel_rfl) (by kernel_rfl) (by kernel_rfl) (fun _ _ _ h => h) hH (Or.inl ⟨by rfl, ?_⟩) ?_
      rotate_left
      · intro wq hq
        go_simp
        try rfl
      try simp only [Act.put, List.setIfInBounds_toArray, List.set_cons_zero, List.set_cons_succ]
      refine tkH (v := ?_) (i := 4) rfl (by kernel_rfl) (by kernel_rfl) (by kernel_rfl) (fun _ _ _ h => h) hH (Or.inl ⟨by rfl, ?_⟩) ?_
      rotate_left
      · intro wq hq
        go_simp
        try rfl
      try simp only [Act.put, List.setIfInBounds_toArray, List.set_cons_zero, List.set_cons_succ]
      refine tkH (i := 5) rfl (by kernel_rfl) (by kernel_rfl) (by kernel_rfl) (fun _ _ _ h => h) hH (yld t34 (by rfl) rfl rfl S rS lS) ?_
      try simp only [Act.put, List.setIfInBounds_toArray, List.set_cons_zero, List.set_cons_succ]
      refine tkH (v := ?_) (i := 6) rfl (by kernel_rfl) (by kernel_rfl) (by kernel_rfl) (fun _ _ _ h => h) hH (Or.inl ⟨by rfl, ?_⟩) ?_
      rotate_left
      · intro wq hq
        go_simp
        try rfl
      try simp only [Act.put, List.setIfInBounds_toArray, List.set_cons_zero, List.set_cons_succ]
      refine tkH (v := ?_) (i := 7) rfl (by kernel_rfl) (by kernel_rfl) (by kernel_rfl) (fun _ _ _ h => h) hH (Or.inl ⟨by rfl, ?_⟩) ?_
      rotate_left
      · intro wq hq
        go_simp
        try rfl
      try simp only [Act.put, List.setIfInBounds_toArray, List.set_cons_zero, List.set_cons_succ]
      refine tkH (i := 8) rfl (by kernel_rfl) (by kernel_rfl) (by kernel_rfl) (fun _ _ _ h => h) hH (yld t34 (by rfl) rfl rfl U rU lU) ?_
      try simp only [Act.put, List.setIfInBounds_toArray, List.set_cons_zero, List.set_cons_succ]
      refine efH2 (i := 9) (j := 14) rfl rfl (by kernel_rfl) (by rfl) (by rfl) (fun KK hKK => ?_) (fun KK hKK => ?_)
      · refine wp_of_exec (exec_lit3 lT lS lU rfl rfl rfl rfl y0) ?_
        refine hKK.out _ _ (hH.alloc hH.size _) (fun hH => ?_)
        clear hKK KK
        try simp only [Act.put, List.setIfInBounds_toArray, List.set_cons_zero, List.set_cons_succ]
        have oL := Own.new y0 34 (vs [T, S, U].flatten)
        generalize y0.alloc (Obj.cells (vs [T, S, U].flatten) 34) = y1 at *
        refine efH2 (i := 10) (j := 14) rfl rfl (by kernel_rfl) (by rfl) (by rfl) (fun KK hKK => ?_) (fun KK hKK => ?_)
        · go_simp
          refine (HJ.out.2.2.2 _ _ (ss_lit lT lS lU HB.out.2.1 HB.out.1 HB.out.2.2 oL)).mono ?_
          rintro e y2 ⟨rfl, hx⟩
          have hH' := hH.trans (hx.mono hH.size)
          go_wp2_with fail
          refine hKK.out _ _ hH' (fun hH => ?_)
          clear hKK KK hH' hx oL
          try simp only [Act.put, List.setIfInBounds_toArray, List.set_cons_zero, List.set_cons_succ]
          refine tkH (v := ?_) (i := 11) rfl (by kernel_rfl) (by kernel_rfl) (by kernel_rfl) (fun _ _ _ h => h) hH (Or.inl ⟨by rfl, ?_⟩) ?_
          rotate_left
          · intro wq hq
            go_simp
            try rfl
          try simp only [Act.put, List.setIfInBounds_toArray, List.set_cons_zero, List.set_cons_succ]
          refine tkH (v := ?_) (i := 12) rfl (by kernel_rfl) (by kernel_rfl) (by kernel_rfl) (fun _ _ _ h => h) hH (Or.inl ⟨by rfl, ?_⟩) ?_
          rotate_left
          · intro wq hq
            go_simp
            try rfl
          try simp only [Act.put, List.setIfInBounds_toArray, List.set_cons_zero, List.set_cons_succ]
          refine tkH (v := ?_) (i := 13) rfl (by kernel_rfl) (by kernel_rfl) (by kernel_rfl) (fun _ _ _ h => h) hH (Or.inl ⟨by rfl, ?_⟩) ?_
          rotate_left
          · intro wq hq
            go_simp
            try rfl
          try simp only [Act.put, List.setIfInBounds_toArray, List.set_cons_zero, List.set_cons_succ]
          refine efH (i := 14) rfl (by kernel_rfl) (by rfl) (fun KK hKK => ?_)
          refine wp_of_exec (exec_new z23 rfl y2) ?_
          have hle := hH.size
          refine hKK.out _ _ (hH.alloc hH.size _) (fun hH => ?_)
          clear hKK KK
          try simp only [Act.put, List.setIfInBounds_toArray, List.set_cons_zero, List.set_cons_succ]
          have o9 := Own.new y2 23 (vs (zs 32))
          generalize y2.alloc (Obj.cells (vs (zs 32)) 23) = y3 at *
          refine efH (i := 15) rfl (by kernel_rfl) (by rfl) (fun KK hKK => ?_)
          refine wp_store_row 23 _ _ rfl y2.heap.size (vs Z) rfl rfl 23 (vs (zs 32)) o9 (by rw [t23.siz, vs_size, lz]) (by rw [vs_size, vs_size, zs_length, lz]) (vs_one _) ?_
          refine hKK.out _ _ (below_row hH hle _) (fun hH => ?_)
          clear hKK KK hle
          replace o9 := o9.row (vs Z)
          generalize y3.setRow y2.heap.size (vs Z) = yf at *
          try simp only [Act.put, List.setIfInBounds_toArray, List.set_cons_zero, List.set_cons_succ]
          refine tkH (v := ?_) (i := 16) rfl (by kernel_rfl) (by kernel_rfl) (by kernel_rfl) (fun _ _ _ h => h) hH (Or.inl ⟨by rfl, ?_⟩) ?_
          rotate_left
          · intro wq hq
            go_simp
            try rfl
          try simp only [Act.put, List.setIfInBounds_toArray, List.set_cons_zero, List.set_cons_succ]
          refine wpAnyH_done (by kernel_rfl) ?_ _
          try simp only [Act.put, List.getElem_toArray, List.getElem_cons_zero, List.getElem_cons_succ, List.setIfInBounds_toArray, List.set_cons_zero, List.set_cons_succ]
          have rB := o9.rg
          have rA := (o7.below hH).rg
          replace r3 := r3.below hH
          replace b4 := b4.trans (hH.mono b4.size)
          go_wp2_with (first | (refine ldw t23 rfl rfl rfl rA lz ?_) | (refine ldw t23 rfl rfl rfl r3 lz ?_) | (refine ldw t23 rfl rfl rfl rB lz ?_) | (refine cmpw cmp23 false Z Z rfl rfl rfl rfl lz lz bz bz ?_))
          go_ret
          exact ⟨rfl, b4⟩
        · refine wp_of_exec (exec_new z23 rfl y1) ?_
          have hle := hH.size
          refine hKK.out _ _ (hH.alloc hH.size _) (fun hH => ?_)
          clear hKK KK
          try simp only [Act.put, List.setIfInBounds_toArray, List.set_cons_zero, List.set_cons_succ]
          have o9 := Own.new y1 23 (vs (zs 32))
          replace oL := oL.alloc (Obj.cells (vs (zs 32)) 23)
          generalize y1.alloc (Obj.cells (vs (zs 32)) 23) = y2 at *
          refine efH (i := 10) rfl (by kernel_rfl) (by rfl) (fun KK hKK => ?_)
          go_simp
          refine (HJ.out.2.2.2 _ _ (ss_lit lT lS lU HB.out.2.1 HB.out.1 HB.out.2.2 oL)).mono ?_
          rintro e y3 ⟨rfl, hx⟩
          have hH' := hH.trans (hx.mono hH.size)
          go_wp2_with fail
          refine hKK.out _ _ hH' (fun hH => ?_)
          replace o9 := o9.below hx
          clear hKK KK hH' hx oL
          try simp only [Act.put, List.setIfInBounds_toArray, List.set_cons_zero, List.set_cons_succ]
          refine tkH (v := ?_) (i := 11) rfl (by kernel_rfl) (by kernel_rfl) (by kernel_rfl) (fun _ _ _ h => h) hH (Or.inl ⟨by rfl, ?_⟩) ?_
          rotate_left
          · intro wq hq
            go_simp
            try rfl
          try simp only [Act.put, List.setIfInBounds_toArray, List.set_cons_zero, List.set_cons_succ]
          refine tkH (v := ?_) (i := 12) rfl (by kernel_rfl) (by kernel_rfl) (by kernel_rfl) (fun _ _ _ h => h) hH (Or.inl ⟨by rfl, ?_⟩) ?_
          rotate_left
          · intro wq hq
            go_simp
            try rfl
          try simp only [Act.put, List.setIfInBounds_toArray, List.set_cons_zero, List.set_cons_succ]
          refine tkH (v := ?_) (i := 13) rfl (by kernel_rfl) (by kernel_rfl) (by kernel_rfl) (fun _ _ _ h => h) hH (Or.inl ⟨by rfl, ?_⟩) ?_
          rotate_left
          · intro wq hq
            go_simp
            try rfl
          try simp only [Act.put, List.setIfInBounds_toArray, List.set_cons_zero, List.set_cons_succ]
          refine efH (i := 15) rfl (by kernel_rfl) (by rfl) (fun KK hKK => ?_)
          refine wp_store_row 23 _ _ rfl y1.heap.size (vs Z) rfl rfl 23 (vs (zs 32)) o9 (by rw [t23.siz, vs_size, lz]) (by rw [vs_size, vs_size, zs_length, lz]) (vs_one _) ?_
          refine hKK.out _ _ (below_row hH hle _) (fun hH => ?_)
          clear hKK KK hle
          replace o9 := o9.row (vs Z)
          generalize y3.setRow y1.heap.size (vs Z) = yf at *
          try simp only [Act.put, List.setIfInBounds_toArray, List.set_cons_zero, List.set_cons_succ]
          refine tkH (v := ?_) (i := 16) rfl (by kernel_rfl) (by kernel_rfl) (by kernel_rfl) (fun _ _ _ h => h) hH (Or.inl ⟨by rfl, ?_⟩) ?_
          rotate_left
          · intro wq hq
            go_simp
            try rfl
          try simp only [Act.put, List.setIfInBounds_toArray, List.set_cons_zero, List.set_cons_succ]
          refine wpAnyH_done (by kernel_rfl) ?_ _
          try simp only [Act.put, List.getElem_toArray, List.getElem_cons_zero, List.getElem_cons_succ, List.setIfInBounds_toArray, List.set_cons_zero, List.set_cons_succ]
          have rB := o9.rg
          have rA := (o7.below hH).rg
          replace r3 := r3.below hH
          replace b4 := b4.trans (hH.mono b4.size)
          go_wp2_with (first | (refine ldw t23 rfl rfl rfl rA lz ?_) | (refine ldw t23 rfl rfl rfl r3 lz ?_) | (refine ldw t23 rfl rfl rfl rB lz ?_) | (refine cmpw cmp23 false Z Z rfl rfl rfl rfl lz lz bz bz ?_))
          go_ret
          exact ⟨rfl, b4⟩
      · refine wp_of_exec (exec_new z23 rfl y0) ?_
        have hle := hH.size
        refine hKK.out _ _ (hH.alloc hH.size _) (fun hH => ?_)
        clear hKK KK
        try simp only [Act.put, List.setIfInBounds_toArray, List.set_cons_zero, List.set_cons_succ]
        have o9 := Own.new y0 23 (vs (zs 32))
        generalize y0.alloc (Obj.cells (vs (zs 32)) 23) = y1 at *
        refine efH (i := 9) rfl (by kernel_rfl) (by rfl) (fun KK hKK => ?_)
        refine wp_of_exec (exec_lit3 lT lS lU rfl rfl rfl rfl y1) ?_
        refine hKK.out _ _ (hH.alloc hH.size _) (fun hH => ?_)
        clear hKK KK
        try simp only [Act.put, List.setIfInBounds_toArray, List.set_cons_zero, List.set_cons_succ]
        have oL := Own.new y1 34 (vs [T, S, U].flatten)
        replace o9 := o9.alloc (Obj.cells (vs [T, S, U].flatten) 34)
        generalize y1.alloc (Obj.cells (vs [T, S, U].flatten) 34) = y2 at *
        refine efH (i := 10) rfl (by kernel_rfl) (by rfl) (fun KK hKK => ?_)
        go_simp
        refine (HJ.out.2.2.2 _ _ (ss_lit lT lS lU HB.out.2.1 HB.out.1 HB.out.2.2 oL)).mono ?_
        rintro e y3 ⟨rfl, hx⟩
        have hH' := hH.trans (hx.mono hH.size)
        go_wp2_with fail
        refine hKK.out _ _ hH' (fun hH => ?_)
        replace o9 := o9.below hx
        clear hKK KK hH' hx oL
        try simp only [Act.put, List.setIfInBounds_toArray, List.set_cons_zero, List.set_cons_succ]
        refine tkH (v := ?_) (i := 11) rfl (by kernel_rfl) (by kernel_rfl) (by kernel_rfl) (fun _ _ _ h => h) hH (Or.inl ⟨by rfl, ?_⟩) ?_
        rotate_left
        · intro wq hq
          go_simp
          try rfl
        try simp only [Act.put, List.setIfInBounds_toArray, List.set_cons_zero, List.set_cons_succ]
        refine tkH (v := ?_) (i := 12) rfl (by kernel_rfl) (by kernel_rfl) (by kernel_rfl) (fun _ _ _ h => h) hH (Or.inl ⟨by rfl, ?_⟩) ?_
        rotate_left
        · intro wq hq
          go_simp
          try rfl
        try simp only [Act.put, List.setIfInBounds_toArray, List.set_cons_zero, List.set_cons_succ]
        refine tkH (v := ?_) (i := 13) rfl (by kernel_rfl) (by kernel_rfl) (by kernel_rfl) (fun _ _ _ h => h) hH (Or.inl ⟨by rfl, ?_⟩) ?_
        rotate_left
        · intro wq hq
          go_simp
          try rfl
        try simp only [Act.put, List.setIfInBounds_toArray, List.set_cons_zero, List.set_cons_succ]
        refine efH (i := 15) rfl (by kernel_rfl) (by rfl) (fun KK hKK => ?_)
        refine wp_store_row 23 _ _ rfl y0.heap.size (vs Z) rfl rfl 23 (vs (zs 32)) o9 (by rw [t23.siz, vs_size, lz]) (by rw [vs_size, vs_size, zs_length, lz]) (vs_one _) ?_
        refine hKK.out _ _ (below_row hH hle _) (fun hH => ?_)
        clear hKK KK hle
        replace o9 := o9.row (vs Z)
        generalize y3.setRow y0.heap.size (vs Z) = yf at *
        try simp only [Act.put, List.setIfInBounds_toArray, List.set_cons_zero, List.set_cons_succ]
        refine tkH (v := ?_) (i := 16) rfl (by kernel_rfl) (by kernel_rfl) (by kernel_rfl) (fun _ _ _ h => h) hH (Or.inl ⟨by rfl, ?_⟩) ?_
        rotate_left
        · intro wq hq
          go_simp
          try rfl
        try simp only [Act.put, List.setIfInBounds_toArray, List.set_cons_zero, List.set_cons_succ]
        refine wpAnyH_done (by kernel_rfl) ?_ _
        try simp only [Act.put, List.getElem_toArray, List.getElem_cons_zero, List.getElem_cons_succ, List.setIfInBounds_toArray, List.set_cons_zero, List.set_cons_succ]
        have rB := o9.rg
        have rA := (o7.below hH).rg
        replace r3 := r3.below hH
        replace b4 := b4.trans (hH.mono b4.size)
        go_wp2_with (first | (refine ldw t23 rfl rfl rfl rA lz ?_) | (refine ldw t23 rfl rfl rfl r3 lz ?_) | (refine ldw t23 rfl rfl rfl rB lz ?_) | (refine cmpw cmp23 false Z Z rfl rfl rfl rfl lz lz bz bz ?_))
        go_ret
        exact ⟨rfl, b4⟩
    · refine wp_of_exec (exec_new z23 rfl x1) ?_
      have hle := hH.size
      refine hKK.out _ _ (hH.alloc hH.size _) (fun hH => ?_)
      clear hKK KK
      try simp only [Act.put, List.setIfInBounds_toArray, List.set_cons_zero, List.set_cons_succ]
      have o7 := Own.new x1 23 (vs (zs 32))
      replace oL := oL.alloc (Obj.cells (vs (zs 32)) 23)
      generalize x1.alloc (Obj.cells (vs (zs 32)) 23) = x2 at *
      refine efH (i := 10) rfl (by kernel_rfl) (by rfl) (fun KK hKK => ?_)
      go_simp
      refine (HJ.out.2.2.1 _ _ (ss_lit lU lS lT HB.out.2.2 HB.out.1 HB.out.2.1 oL)).mono ?_
      rintro e x3 ⟨rfl, hx⟩
      have hH' := hH.trans (hx.mono hH.size)
      go_wp2_with fail
      refine hKK.out _ _ hH' (fun hH => ?_)
      replace o7 := o7.below hx
      clear hKK KK hH' hx oL
      try simp only [Act.put, List.setIfInBounds_toArray, List.set_cons_zero, List.set_cons_succ]
      refine tkH (v := ?_) (i := 11) rfl (by kernel_rfl) (by kernel_rfl) (by kernel_rfl) (fun _ _ _ h => h) hH (Or.inl ⟨by rfl, ?_⟩) ?_
      rotate_left
      · intro wq hq
        go_simp
        try rfl
      try simp only [Act.put, List.setIfInBounds_toArray, List.set_cons_zero, List.set_cons_succ]
      refine tkH (v := ?_) (i := 12) rfl (by kernel_rfl) (by kernel_rfl) (by kernel_rfl) (fun _ _ _ h => h) hH (Or.inl ⟨by rfl, ?_⟩) ?_
      rotate_left
      · intro wq hq
        go_simp
        try rfl
      try simp only [Act.put, List.setIfInBounds_toArray, List.set_cons_zero, List.set_cons_succ]
      refine tkH (v := ?_) (i := 13) rfl (by kernel_rfl) (by kernel_rfl) (by kernel_rfl) (fun _ _ _ h => h) hH (Or.inl ⟨by rfl, ?_⟩) ?_
      rotate_left
      · intro wq hq
        go_simp
        try rfl
      try simp only [Act.put, List.setIfInBounds_toArray, List.set_cons_zero, List.set_cons_succ]
      refine efH (i := 15) rfl (by kernel_rfl) (by rfl) (fun KK hKK => ?_)
      refine wp_store_row 23 _ _ rfl x1.heap.size (vs Z) rfl rfl 23 (vs (zs 32)) o7 (by rw [t23.siz, vs_size, lz]) (by rw [vs_size, vs_size, zs_length, lz]) (vs_one _) ?_
      refine hKK.out _ _ (below_row hH hle _) (fun hH => ?_)
      clear hKK KK hle
      replace o7 := o7.row (vs Z)
      generalize x3.setRow x1.heap.size (vs Z) = xf at *
      try simp only [Act.put, List.setIfInBounds_toArray, List.set_cons_zero, List.set_cons_succ]
      refine tkH (v := ?_) (i := 16) rfl (by kernel_rfl) (by kernel_rfl) (by kernel_rfl) (fun _ _ _ h => h) hH (Or.inl ⟨by rfl, ?_⟩) ?_
      rotate_left
      · intro wq hq
        go_simp
        try rfl
      try simp only [Act.put, List.setIfInBounds_toArray, List.set_cons_zero, List.set_cons_succ]
      refine wpAnyH_done (by kernel_rfl) ?_ _
      try simp only [Act.put, List.getElem_toArray, List.getElem_cons_zero, List.getElem_cons_succ, List.setIfInBounds_toArray, List.set_cons_zero, List.set_cons_succ]
      replace r3 := r3.below hH
      replace rS := rS.below hH
      replace rT := rT.below hH
      replace rU := rU.below hH
      replace b4 := b4.trans (hH.mono b4.size)
      clear hH
      go_wp2_with fail
      replace rS := rS.drew
      replace rT := rT.drew
      replace rU := rU.drew
      replace b4 := b4.drew
      replace r3 := r3.drew
      replace o7 := o7.drew
      refine wp_region_held_drew (S := fun w' => Below xf.drew.heap.size xf.drew w') (by kernel_rfl) (Below.refl _ _) (fun hH => ?_)
      generalize xf.drew = y0 at *
      refine tkH (v := ?_) (i := 0) rfl (by kernel_rfl) (by kernel_rfl) (by kernel_rfl) (fun _ _ _ h => h) hH (Or.inl ⟨by rfl, ?_⟩) ?_
      rotate_left
      · intro wq hq
        go_simp
        try rfl
      try simp only [Act.put, List.setIfInBounds_toArray, List.set_cons_zero, List.set_cons_succ]
      refine tkH (v := ?_) (i := 1) rfl (by kernel_rfl) (by kernel_rfl) (by kernel_rfl) (fun _ _ _ h => h) hH (Or.inl ⟨by rfl, ?_⟩) ?_
      rotate_left
      · intro wq hq
        go_simp
        try rfl
      try simp only [Act.put, List.setIfInBounds_toArray, List.set_cons_zero, List.set_cons_succ]
      refine tkH (i := 2) rfl (by kernel_rfl) (by kernel_rfl) (by kernel_rfl) (fun _ _ _ h => h) hH (yld t34 (by rfl) rfl rfl T rT lT) ?_
      try simp only [Act.put, List.setIfInBounds_toArray, List.set_cons_zero, List.set_cons_succ]
      refine tkH (v := ?_) (i := 3) rfl (by kernel_rfl) (by kernel_rfl) (by kernel_rfl) (fun _ _ _ h => h) hH (Or.inl ⟨by rfl, ?_⟩) ?_
      rotate_left
      · intro wq hq
        go_simp
        try rfl
      try simp only [Act.put, List.setIfInBounds_toArray, List.set_cons_zero, List.set_cons_succ]
      refine tkH (v := ?_) (i := 4) rfl (by kernel_rfl) (by kernel_rfl) (by kernel_rfl) (fun _ _ _ h => h) hH (Or.inl ⟨by rfl, ?_⟩) ?_
      rotate_left
      · intro wq hq
        go_simp
        try rfl
      try simp only [Act.put, List.setIfInBounds_toArray, List.set_cons_zero, List.set_cons_succ]
      refine tkH (i := 5) rfl (by kernel_rfl) (by kernel_rfl) (by kernel_rfl) (fun _ _ _ h => h) hH (yld t34 (by rfl) rfl rfl S rS lS) ?_
      try simp only [Act.put, List.setIfInBounds_toArray, List.set_cons_zero, List.set_cons_succ]
      refine tkH (v := ?_) (i := 6) rfl (by kernel_rfl) (by kernel_rfl) (by kernel_rfl) (fun _ _ _ h => h) hH (Or.inl ⟨by rfl, ?_⟩) ?_
      rotate_left
      · intro wq hq
        go_simp
        try rfl
      try simp only [Act.put, List.setIfInBounds_toArray, List.set_cons_zero, List.set_cons_succ]
      refine tkH (v := ?_) (i := 7) rfl (by kernel_rfl) (by kernel_rfl) (by kernel_rfl) (fun _ _ _ h => h) hH (Or.inl ⟨by rfl, ?_⟩) ?_
      rotate_left
      · intro wq hq
        go_simp
        try rfl
      try simp only [Act.put, List.setIfInBounds_toArray, List.set_cons_zero, List.set_cons_succ]
      refine tkH (i := 8) rfl (by kernel_rfl) (by kernel_rfl) (by kernel_rfl) (fun _ _ _ h => h) hH (yld t34 (by rfl) rfl rfl U rU lU) ?_
      try simp only [Act.put, List.setIfInBounds_toArray, List.set_cons_zero, List.set_cons_succ]
      refine efH2 (i := 9) (j := 14) rfl rfl (by kernel_rfl) (by rfl) (by rfl) (fun KK hKK => ?_) (fun KK hKK => ?_)
      · refine wp_of_exec (exec_lit3 lT lS lU rfl rfl rfl rfl y0) ?_
        refine hKK.out _ _ (hH.alloc hH.size _) (fun hH => ?_)
        clear hKK KK
        try simp only [Act.put, List.setIfInBounds_toArray, List.set_cons_zero, List.set_cons_succ]
        have oL := Own.new y0 34 (vs [T, S, U].flatten)
        generalize y0.alloc (Obj.cells (vs [T, S, U].flatten) 34) = y1 at *
        refine efH2 (i := 10) (j := 14) rfl rfl (by kernel_rfl) (by rfl) (by rfl) (fun KK hKK => ?_) (fun KK hKK => ?_)
        · go_simp
          refine (HJ.out.2.2.2 _ _ (ss_lit lT lS lU HB.out.2.1 HB.out.1 HB.out.2.2 oL)).mono ?_
          rintro e y2 ⟨rfl, hx⟩
          have hH' := hH.trans (hx.mono hH.size)
          go_wp2_with fail
          refine hKK.out _ _ hH' (fun hH => ?_)
          clear hKK KK hH' hx oL
          try simp only [Act.put, List.setIfInBounds_toArray, List.set_cons_zero, List.set_cons_succ]
          refine tkH (v := ?_) (i := 11) rfl (by kernel_rfl) (by kernel_rfl) (by kernel_rfl) (fun _ _ _ h => h) hH (Or.inl ⟨by rfl, ?_⟩) ?_
          rotate_left
          · intro wq hq
            go_simp
            try rfl
          try simp only [Act.put, List.setIfInBounds_toArray, List.set_cons_zero, List.set_cons_succ]
          refine tkH (v := ?_) (i := 12) rfl (by kernel_rfl) (by kernel_rfl) (by kernel_rfl) (fun _ _ _ h => h) hH (Or.inl ⟨by rfl, ?_⟩) ?_
          rotate_left
          · intro wq hq
            go_simp
            try rfl
          try simp only [Act.put, List.setIfInBounds_toArray, List.set_cons_zero, List.set_cons_succ]
          refine tkH (v := ?_) (i := 13) rfl (by kernel_rfl) (by kernel_rfl) (by kernel_rfl) (fun _ _ _ h => h) hH (Or.inl ⟨by rfl, ?_⟩) ?_
          rotate_left
          · intro wq hq
            go_simp
            try rfl
          try simp only [Act.put, List.setIfInBounds_toArray, List.set_cons_zero, List.set_cons_succ]
          refine efH (i := 14) rfl (by kernel_rfl) (by rfl) (fun KK hKK => ?_)
          refine wp_of_exec (exec_new z23 rfl y2) ?_
          have hle := hH.size
          refine hKK.out _ _ (hH.alloc hH.size _) (fun hH => ?_)
          clear hKK KK
          try simp only [Act.put, List.setIfInBounds_toArray, List.set_cons_zero, List.set_cons_succ]
          have o9 := Own.new y2 23 (vs (zs 32))
          generalize y2.alloc (Obj.cells (vs (zs 32)) 23) = y3 at *
          refine efH (i := 15) rfl (by kernel_rfl) (by rfl) (fun KK hKK => ?_)
          refine wp_store_row 23 _ _ rfl y2.heap.size (vs Z) rfl rfl 23 (vs (zs 32)) o9 (by rw [t23.siz, vs_size, lz]) (by rw [vs_size, vs_size, zs_length, lz]) (vs_one _) ?_
          refine hKK.out _ _ (below_row hH hle _) (fun hH => ?_)
          clear hKK KK hle
          replace o9 := o9.row (vs Z)
          generalize y3.setRow y2.heap.size (vs Z) = yf at *
          try simp only [Act.put, List.setIfInBounds_toArray, List.set_cons_zero, List.set_cons_succ]
          refine tkH (v := ?_) (i := 16) rfl (by kernel_rfl) (by kernel_rfl) (by kernel_rfl) (fun _ _ _ h => h) hH (Or.inl ⟨by rfl, ?_⟩) ?_
          rotate_left
          · intro wq hq
            go_simp
            try rfl
          try simp only [Act.put, List.setIfInBounds_toArray, List.set_cons_zero, List.set_cons_succ]
          refine wpAnyH_done (by kernel_rfl) ?_ _
          try simp only [Act.put, List.getElem_toArray, List.getElem_cons_zero, List.getElem_cons_succ, List.setIfInBounds_toArray, List.set_cons_zero, List.set_cons_succ]
          have rB := o9.rg
          have rA := (o7.below hH).rg
          replace r3 := r3.below hH
          replace b4 := b4.trans (hH.mono b4.size)
          go_wp2_with (first | (refine ldw t23 rfl rfl rfl rA lz ?_) | (refine ldw t23 rfl rfl rfl r3 lz ?_) | (refine ldw t23 rfl rfl rfl rB lz ?_) | (refine cmpw cmp23 false Z Z rfl rfl rfl rfl lz lz bz bz ?_))
          go_ret
          exact ⟨rfl, b4⟩
        · refine wp_of_exec (exec_new z23 rfl y1) ?_
          have hle := hH.size
          refine hKK.out _ _ (hH.alloc hH.size _) (fun hH => ?_)
          clear hKK KK
          try simp only [Act.put, List.setIfInBounds_toArray, List.set_cons_zero, List.set_cons_succ]
          have o9 := Own.new y1 23 (vs (zs 32))
          replace oL := oL.alloc (Obj.cells (vs (zs 32)) 23)
          generalize y1.alloc (Obj.cells (vs (zs 32)) 23) = y2 at *
          refine efH (i := 10) rfl (by kernel_rfl) (by rfl) (fun KK hKK => ?_)
          go_simp
          refine (HJ.out.2.2.2 _ _ (ss_lit lT lS lU HB.out.2.1 HB.out.1 HB.out.2.2 oL)).mono ?_
          rintro e y3 ⟨rfl, hx⟩
          have hH' := hH.trans (hx.mono hH.size)
          go_wp2_with fail
          refine hKK.out _ _ hH' (fun hH => ?_)
          replace o9 := o9.below hx
          clear hKK KK hH' hx oL
          try simp only [Act.put, List.setIfInBounds_toArray, List.set_cons_zero, List.set_cons_succ]
          refine tkH (v := ?_) (i := 11) rfl (by kernel_rfl) (by kernel_rfl) (by kernel_rfl) (fun _ _ _ h => h) hH (Or.inl ⟨by rfl, ?_⟩) ?_
          rotate_left
          · intro wq hq
            go_simp
            try rfl
          try simp only [Act.put, List.setIfInBounds_toArray, List.set_cons_zero, List.set_cons_succ]
          refine tkH (v := ?_) (i := 12) rfl (by kernel_rfl) (by kernel_rfl) (by kernel_rfl) (fun _ _ _ h => h) hH (Or.inl ⟨by rfl, ?_⟩) ?_
          rotate_left
          · intro wq hq
            go_simp
            try rfl
          try simp only [Act.put, List.setIfInBounds_toArray, List.set_cons_zero, List.set_cons_succ]
          refine tkH (v := ?_) (i := 13) rfl (by kernel_rfl) (by kernel_rfl) (by kernel_rfl) (fun _ _ _ h => h) hH (Or.inl ⟨by rfl, ?_⟩) ?_
          rotate_left
          · intro wq hq
            go_simp
            try rfl
          try simp only [Act.put, List.setIfInBounds_toArray, List.set_cons_zero, List.set_cons_succ]
          refine efH (i := 15) rfl (by kernel_rfl) (by rfl) (fun KK hKK => ?_)
          refine wp_store_row 23 _ _ rfl y1.heap.size (vs Z) rfl rfl 23 (vs (zs 32)) o9 (by rw [t23.siz, vs_size, lz]) (by rw [vs_size, vs_size, zs_length, lz]) (vs_one _) ?_
          refine hKK.out _ _ (below_row hH hle _) (fun hH => ?_)
          clear hKK KK hle
          replace o9 := o9.row (vs Z)
          generalize y3.setRow y1.heap.size (vs Z) = yf at *
          try simp only [Act.put, List.setIfInBounds_toArray, List.set_cons_zero, List.set_cons_succ]
          refine tkH (v := ?_) (i := 16) rfl (by kernel_rfl) (by kernel_rfl) (by kernel_rfl) (fun _ _ _ h => h) hH (Or.inl ⟨by rfl, ?_⟩) ?_
          rotate_left
          · intro wq hq
            go_simp
            try rfl
          try simp only [Act.put, List.setIfInBounds_toArray, List.set_cons_zero, List.set_cons_succ]
          refine wpAnyH_done (by kernel_rfl) ?_ _
          try simp only [Act.put, List.getElem_toArray, List.getElem_cons_zero, List.getElem_cons_succ, List.setIfInBounds_toArray, List.set_cons_zero, List.set_cons_succ]
          have rB := o9.rg
          have rA := (o7.below hH).rg
          replace r3 := r3.below hH
          replace b4 := b4.trans (hH.mono b4.size)
          go_wp2_with (first | (refine ldw t23 rfl rfl rfl rA lz ?_) | (refine ldw t23 rfl rfl rfl r3 lz ?_) | (refine ldw t23 rfl rfl rfl rB lz ?_) | (refine cmpw cmp23 false Z Z rfl rfl rfl rfl lz lz bz bz ?_))
          go_ret
          exact ⟨rfl, b4⟩
      · refine wp_of_exec (exec_new z23 rfl y0) ?_
        have hle := hH.size
        refine hKK.out _ _ (hH.alloc hH.size _) (fun hH => ?_)
        clear hKK KK
        try simp only [Act.put, List.setIfInBounds_toArray, List.set_cons_zero, List.set_cons_succ]
        have o9 := Own.new y0 23 (vs (zs 32))
        generalize y0.alloc (Obj.cells (vs (zs 32)) 23) = y1 at *
        refine efH (i := 9) rfl (by kernel_rfl) (by rfl) (fun KK hKK => ?_)
        refine wp_of_exec (exec_lit3 lT lS lU rfl rfl rfl rfl y1) ?_
        refine hKK.out _ _ (hH.alloc hH.size _) (fun hH => ?_)
        clear hKK KK
        try simp only [Act.put, List.setIfInBounds_toArray, List.set_cons_zero, List.set_cons_succ]
        have oL := Own.new y1 34 (vs [T, S, U].flatten)
        replace o9 := o9.alloc (Obj.cells (vs [T, S, U].flatten) 34)
        generalize y1.alloc (Obj.cells (vs [T, S, U].flatten) 34) = y2 at *
        refine efH (i := 10) rfl (by kernel_rfl) (by rfl) (fun KK hKK => ?_)
        go_simp
        refine (HJ.out.2.2.2 _ _ (ss_lit lT lS lU HB.out.2.1 HB.out.1 HB.out.2.2 oL)).mono ?_
        rintro e y3 ⟨rfl, hx⟩
        have hH' := hH.trans (hx.mono hH.size)
        go_wp2_with fail
        refine hKK.out _ _ hH' (fun hH => ?_)
        replace o9 := o9.below hx
        clear hKK KK hH' hx oL
        try simp only [Act.put, List.setIfInBounds_toArray, List.set_cons_zero, List.set_cons_succ]
        refine tkH (v := ?_) (i := 11) rfl (by kernel_rfl) (by kernel_rfl) (by kernel_rfl) (fun _ _ _ h => h) hH (Or.inl ⟨by rfl, ?_⟩) ?_
        rotate_left
        · intro wq hq
          go_simp
          try rfl
        try simp only [Act.put, List.setIfInBounds_toArray, List.set_cons_zero, List.set_cons_succ]
        refine tkH (v := ?_) (i := 12) rfl (by kernel_rfl) (by kernel_rfl) (by kernel_rfl) (fun _ _ _ h => h) hH (Or.inl ⟨by rfl, ?_⟩) ?_
        rotate_left
        · intro wq hq
          go_simp
          try rfl
        try simp only [Act.put, List.setIfInBounds_toArray, List.set_cons_zero, List.set_cons_succ]
        refine tkH (v := ?_) (i := 13) rfl (by kernel_rfl) (by kernel_rfl) (by kernel_rfl) (fun _ _ _ h => h) hH (Or.inl ⟨by rfl, ?_⟩) ?_
        rotate_left
        · intro wq hq
          go_simp
          try rfl
        try simp only [Act.put, List.setIfInBounds_toArray, List.set_cons_zero, List.set_cons_succ]
        refine efH (i := 15) rfl (by kernel_rfl) (by rfl) (fun KK hKK => ?_)
        refine wp_store_row 23 _ _ rfl y0.heap.size (vs Z) rfl rfl 23 (vs (zs 32)) o9 (by rw [t23.siz, vs_size, lz]) (by rw [vs_size, vs_size, zs_length, lz]) (vs_one _) ?_
        refine hKK.out _ _ (below_row hH hle _) (fun hH => ?_)
        clear hKK KK hle
        replace o9 := o9.row (vs Z)
        generalize y3.setRow y0.heap.size (vs Z) = yf at *
        try simp only [Act.put, List.setIfInBounds_toArray, List.set_cons_zero, List.set_cons_succ]
        refine tkH (v := ?_) (i := 16) rfl (by kernel_rfl) (by kernel_rfl) (by kernel_rfl) (fun _ _ _ h => h) hH (Or.inl ⟨by rfl, ?_⟩) ?_
        rotate_left
        · intro wq hq
          go_simp
          try rfl
        try simp only [Act.put, List.setIfInBounds_toArray, List.set_cons_zero, List.set_cons_succ]
        refine wpAnyH_done (by kernel_rfl) ?_ _
        try simp only [Act.put, List.getElem_toArray, List.getElem_cons_zero, List.getElem_cons_succ, List.setIfInBounds_toArray, List.set_cons_zero, List.set_cons_succ]
        have rB := o9.rg
        have rA := (o7.below hH).rg
        replace r3 := r3.below hH
        replace b4 := b4.trans (hH.mono b4.size)
        go_wp2_with (first | (refine ldw t23 rfl rfl rfl rA lz ?_) | (refine ldw t23 rfl rfl rfl r3 lz ?_) | (refine ldw t23 rfl rfl rfl rB lz ?_) | (refine cmpw cmp23 false Z Z rfl rfl rfl rfl lz lz bz bz ?_))
        go_ret
        exact ⟨rfl, b4⟩
  · refine wp_of_exec (exec_new z23 rfl x0) ?_
    have hle := hH.size
    refine hKK.out _ _ (hH.alloc hH.size _) (fun hH => ?_)
    clear hKK KK
    try simp only [Act.put, List.setIfInBounds_toArray, List.set_cons_zero, List.set_cons_succ]
    have o7 := Own.new x0 23 (vs (zs 32))
    generalize x0.alloc (Obj.cells (vs (zs 32)) 23) = x1 at *
    refine efH (i := 9) rfl (by kernel_rfl) (by rfl) (fun KK hKK => ?_)
    refine wp_of_exec (exec_lit3 lU lS lT rfl rfl rfl rfl x1) ?_
    refine hKK.out _ _ (hH.alloc hH.size _) (fun hH => ?_)
    clear hKK KK
    try simp only [Act.put, List.setIfInBounds_toArray, List.set_cons_zero, List.set_cons_succ]
    have oL := Own.new x1 34 (vs [U, S, T].flatten)
    replace o7 := o7.alloc (Obj.cells (vs [U, S, T].flatten) 34)
    generalize x1.alloc (Obj.cells (vs [U, S, T].flatten) 34) = x2 at *
    refine efH (i := 10) rfl (by kernel_rfl) (by rfl) (fun KK hKK => ?_)
    go_simp
    refine (HJ.out.2.2.1 _ _ (ss_lit lU lS lT HB.out.2.2 HB.out.1 HB.out.2.1 oL)).mono ?_
    rintro e x3 ⟨rfl, hx⟩
    have hH' := hH.trans (hx.mono hH.size)
    go_wp2_with fail
    refine hKK.out _ _ hH' (fun hH => ?_)
    replace o7 := o7.below hx
    clear hKK KK hH' hx oL
    try simp only [Act.put, List.setIfInBounds_toArray, List.set_cons_zero, List.set_cons_succ]
    refine tkH (v := ?_) (i := 11) rfl (by kernel_rfl) (by kernel_rfl) (by kernel_rfl) (fun _ _ _ h => h) hH (Or.inl ⟨by rfl, ?_⟩) ?_
    rotate_left
    · intro wq hq
      go_simp
      try rfl
    try simp only [Act.put, List.setIfInBounds_toArray, List.set_cons_zero, List.set_cons_succ]
    refine tkH (v := ?_) (i := 12) rfl (by kernel_rfl) (by kernel_rfl) (by kernel_rfl) (fun _ _ _ h => h) hH (Or.inl ⟨by rfl, ?_⟩) ?_
    rotate_left
    · intro wq hq
      go_simp
      try rfl
    try simp only [Act.put, List.setIfInBounds_toArray, List.set_cons_zero, List.set_cons_succ]
    refine tkH (v := ?_) (i := 13) rfl (by kernel_rfl) (by kernel_rfl) (by kernel_rfl) (fun _ _ _ h => h) hH (Or.inl ⟨by rfl, ?_⟩) ?_
    rotate_left
    · intro wq hq
      go_simp
      try rfl
    try simp only [Act.put, List.setIfInBounds_toArray, List.set_cons_zero, List.set_cons_succ]
    refine efH (i := 15) rfl (by kernel_rfl) (by rfl) (fun KK hKK => ?_)
    refine wp_store_row 23 _ _ rfl x0.heap.size (vs Z) rfl rfl 23 (vs (zs 32)) o7 (by rw [t23.siz, vs_size, lz]) (by rw [vs_size, vs_size, zs_length, lz]) (vs_one _) ?_
    refine hKK.out _ _ (below_row hH hle _) (fun hH => ?_)
    clear hKK KK hle
    replace o7 := o7.row (vs Z)
    generalize x3.setRow x0.heap.size (vs Z) = xf at *
    try simp only [Act.put, List.setIfInBounds_toArray, List.set_cons_zero, List.set_cons_succ]
    refine tkH (v := ?_) (i := 16) rfl (by kernel_rfl) (by kernel_rfl) (by kernel_rfl) (fun _ _ _ h => h) hH (Or.inl ⟨by rfl, ?_⟩) ?_
    rotate_left
    · intro wq hq
      go_simp
      try rfl
    try simp only [Act.put, List.setIfInBounds_toArray, List.set_cons_zero, List.set_cons_succ]
    refine wpAnyH_done (by kernel_rfl) ?_ _
    try simp only [Act.put, List.getElem_toArray, List.getElem_cons_zero, List.getElem_cons_succ, List.setIfInBounds_toArray, List.set_cons_zero, List.set_cons_succ]
    replace r3 := r3.below hH
    replace rS := rS.below hH
    replace rT := rT.below hH
    replace rU := rU.below hH
    replace b4 := b4.trans (hH.mono b4.size)
    clear hH
    go_wp2_with fail
    replace rS := rS.drew
    replace rT := rT.drew
    replace rU := rU.drew
    replace b4 := b4.drew
    replace r3 := r3.drew
    replace o7 := o7.drew
    refine wp_region_held_drew (S := fun w' => Below xf.drew.heap.size xf.drew w') (by kernel_rfl) (Below.refl _ _) (fun hH => ?_)
    generalize xf.drew = y0 at *
    refine tkH (v := ?_) (i := 0) rfl (by kernel_rfl) (by kernel_rfl) (by kernel_rfl) (fun _ _ _ h => h) hH (Or.inl ⟨by rfl, ?_⟩) ?_
    rotate_left
    · intro wq hq
      go_simp
      try rfl
    try simp only [Act.put, List.setIfInBounds_toArray, List.set_cons_zero, List.set_cons_succ]
    refine tkH (v := ?_) (i := 1) rfl (by kernel_rfl) (by kernel_rfl) (by kernel_rfl) (fun _ _ _ h => h) hH (Or.inl ⟨by rfl, ?_⟩) ?_
    rotate_left
    · intro wq hq
      go_simp
      try rfl
    try simp only [Act.put, List.setIfInBounds_toArray, List.set_cons_zero, List.set_cons_succ]
    refine tkH (i := 2) rfl (by kernel_rfl) (by kernel_rfl) (by kernel_rfl) (fun _ _ _ h => h) hH (yld t34 (by rfl) rfl rfl T rT lT) ?_
    try simp only [Act.put, List.setIfInBounds_toArray, List.set_cons_zero, List.set_cons_succ]
    refine tkH (v := ?_) (i := 3) rfl (by kernel_rfl) (by kernel_rfl) (by kernel_rfl) (fun _ _ _ h => h) hH (Or.inl ⟨by rfl, ?_⟩) ?_
    rotate_left
    · intro wq hq
      go_simp
      try rfl
    try simp only [Act.put, List.setIfInBounds_toArray, List.set_cons_zero, List.set_cons_succ]
    refine tkH (v := ?_) (i := 4) rfl (by kernel_rfl) (by kernel_rfl) (by kernel_rfl) (fun _ _ _ h => h) hH (Or.inl ⟨by rfl, ?_⟩) ?_
    rotate_left
    · intro wq hq
      go_simp
      try rfl
    try simp only [Act.put, List.setIfInBounds_toArray, List.set_cons_zero, List.set_cons_succ]
    refine tkH (i := 5) rfl (by kernel_rfl) (by kernel_rfl) (by kernel_rfl) (fun _ _ _ h => h) hH (yld t34 (by rfl) rfl rfl S rS lS) ?_
    try simp only [Act.put, List.setIfInBounds_toArray, List.set_cons_zero, List.set_cons_succ]
    refine tkH (v := ?_) (i := 6) rfl (by kernel_rfl) (by kernel_rfl) (by kernel_rfl) (fun _ _ _ h => h) hH (Or.inl ⟨by rfl, ?_⟩) ?_
    rotate_left
    · intro wq hq
      go_simp
      try rfl
    try simp only [Act.put, List.setIfInBounds_toArray, List.set_cons_zero, List.set_cons_succ]
    refine tkH (v := ?_) (i := 7) rfl (by kernel_rfl) (by kernel_rfl) (by kernel_rfl) (fun _ _ _ h => h) hH (Or.inl ⟨by rfl, ?_⟩) ?_
    rotate_left
    · intro wq hq
      go_simp
      try rfl
    try simp only [Act.put, List.setIfInBounds_toArray, List.set_cons_zero, List.set_cons_succ]
    refine tkH (i := 8) rfl (by kernel_rfl) (by kernel_rfl) (by kernel_rfl) (fun _ _ _ h => h) hH (yld t34 (by rfl) rfl rfl U rU lU) ?_
    try simp only [Act.put, List.setIfInBounds_toArray, List.set_cons_zero, List.set_cons_succ]
    refine efH2 (i := 9) (j := 14) rfl rfl (by kernel_rfl) (by rfl) (by rfl) (fun KK hKK => ?_) (fun KK hKK => ?_)
    · refine wp_of_exec (exec_lit3 lT lS lU rfl rfl rfl rfl y0) ?_
      refine hKK.out _ _ (hH.alloc hH.size _) (fun hH => ?_)
      clear hKK KK
      try simp only [Act.put, List.setIfInBounds_toArray, List.set_cons_zero, List.set_cons_succ]
      have oL := Own.new y0 34 (vs [T, S, U].flatten)
      generalize y0.alloc (Obj.cells (vs [T, S, U].flatten) 34) = y1 at *
      refine efH2 (i := 10) (j := 14) rfl rfl (by kernel_rfl) (by rfl) (by rfl) (fun KK hKK => ?_) (fun KK hKK => ?_)
      · go_simp
        refine (HJ.out.2.2.2 _ _ (ss_lit lT lS lU HB.out.2.1 HB.out.1 HB.out.2.2 oL)).mono ?_
        rintro e y2 ⟨rfl, hx⟩
        have hH' := hH.trans (hx.mono hH.size)
        go_wp2_with fail
        refine hKK.out _ _ hH' (fun hH => ?_)
        clear hKK KK hH' hx oL
        try simp only [Act.put, List.setIfInBounds_toArray, List.set_cons_zero, List.set_cons_succ]
        refine tkH (v := ?_) (i := 11) rfl (by kernel_rfl) (by kernel_rfl) (by kernel_rfl) (fun _ _ _ h => h) hH (Or.inl ⟨by rfl, ?_⟩) ?_
        rotate_left
        · intro wq hq
          go_simp
          try rfl
        try simp only [Act.put, List.setIfInBounds_toArray, List.set_cons_zero, List.set_cons_succ]
        refine tkH (v := ?_) (i := 12) rfl (by kernel_rfl) (by kernel_rfl) (by kernel_rfl) (fun _ _ _ h => h) hH (Or.inl ⟨by rfl, ?_⟩) ?_
        rotate_left
        · intro wq hq
          go_simp
          try rfl
        try simp only [Act.put, List.setIfInBounds_toArray, List.set_cons_zero, List.set_cons_succ]
        refine tkH (v := ?_) (i := 13) rfl (by kernel_rfl) (by kernel_rfl) (by kernel_rfl) (fun _ _ _ h => h) hH (Or.inl ⟨by rfl, ?_⟩) ?_
        rotate_left
        · intro wq hq
          go_simp
          try rfl
        try simp only [Act.put, List.setIfInBounds_toArray, List.set_cons_zero, List.set_cons_succ]
        refine efH (i := 14) rfl (by kernel_rfl) (by rfl) (fun KK hKK => ?_)
        refine wp_of_exec (exec_new z23 rfl y2) ?_
        have hle := hH.size
        refine hKK.out _ _ (hH.alloc hH.size _) (fun hH => ?_)
        clear hKK KK
        try simp only [Act.put, List.setIfInBounds_toArray, List.set_cons_zero, List.set_cons_succ]
        have o9 := Own.new y2 23 (vs (zs 32))
        generalize y2.alloc (Obj.cells (vs (zs 32)) 23) = y3 at *
        refine efH (i := 15) rfl (by kernel_rfl) (by rfl) (fun KK hKK => ?_)
        refine wp_store_row 23 _ _ rfl y2.heap.size (vs Z) rfl rfl 23 (vs (zs 32)) o9 (by rw [t23.siz, vs_size, lz]) (by rw [vs_size, vs_size, zs_length, lz]) (vs_one _) ?_
        refine hKK.out _ _ (below_row hH hle _) (fun hH => ?_)
        clear hKK KK hle
        replace o9 := o9.row (vs Z)
        generalize y3.setRow y2.heap.size (vs Z) = yf at *
        try simp only [Act.put, List.setIfInBounds_toArray, List.set_cons_zero, List.set_cons_succ]
        refine tkH (v := ?_) (i := 16) rfl (by kernel_rfl) (by kernel_rfl) (by kernel_rfl) (fun _ _ _ h => h) hH (Or.inl ⟨by rfl, ?_⟩) ?_
        rotate_left
        · intro wq hq
          go_simp
          try rfl
        try simp only [Act.put, List.setIfInBounds_toArray, List.set_cons_zero, List.set_cons_succ]
        refine wpAnyH_done (by kernel_rfl) ?_ _
        try simp only [Act.put, List.getElem_toArray, List.getElem_cons_zero, List.getElem_cons_succ, List.setIfInBounds_toArray, List.set_cons_zero, List.set_cons_succ]
        have rB := o9.rg
        have rA := (o7.below hH).rg
        replace r3 := r3.below hH
        replace b4 := b4.trans (hH.mono b4.size)
        go_wp2_with (first | (refine ldw t23 rfl rfl rfl rA lz ?_) | (refine ldw t23 rfl rfl rfl r3 lz ?_) | (refine ldw t23 rfl rfl rfl rB lz ?_) | (refine cmpw cmp23 false Z Z rfl rfl rfl rfl lz lz bz bz ?_))
        go_ret
        exact ⟨rfl, b4⟩
      · refine wp_of_exec (exec_new z23 rfl y1) ?_
        have hle := hH.size
        refine hKK.out _ _ (hH.alloc hH.size _) (fun hH => ?_)
        clear hKK KK
        try simp only [Act.put, List.setIfInBounds_toArray, List.set_cons_zero, List.set_cons_succ]
        have o9 := Own.new y1 23 (vs (zs 32))
        replace oL := oL.alloc (Obj.cells (vs (zs 32)) 23)
        generalize y1.alloc (Obj.cells (vs (zs 32)) 23) = y2 at *
        refine efH (i := 10) rfl (by kernel_rfl) (by rfl) (fun KK hKK => ?_)
        go_simp
        refine (HJ.out.2.2.2 _ _ (ss_lit lT lS lU HB.out.2.1 HB.out.1 HB.out.2.2 oL)).mono ?_
        rintro e y3 ⟨rfl, hx⟩
        have hH' := hH.trans (hx.mono hH.size)
        go_wp2_with fail
        refine hKK.out _ _ hH' (fun hH => ?_)
        replace o9 := o9.below hx
        clear hKK KK hH' hx oL
        try simp only [Act.put, List.setIfInBounds_toArray, List.set_cons_zero, List.set_cons_succ]
        refine tkH (v := ?_) (i := 11) rfl (by kernel_rfl) (by kernel_rfl) (by kernel_rfl) (fun _ _ _ h => h) hH (Or.inl ⟨by rfl, ?_⟩) ?_
        rotate_left
        · intro wq hq
          go_simp
          try rfl
        try simp only [Act.put, List.setIfInBounds_toArray, List.set_cons_zero, List.set_cons_succ]
        refine tkH (v := ?_) (i := 12) rfl (by kernel_rfl) (by kernel_rfl) (by kernel_rfl) (fun _ _ _ h => h) hH (Or.inl ⟨by rfl, ?_⟩) ?_
        rotate_left
        · intro wq hq
          go_simp
          try rfl
        try simp only [Act.put, List.setIfInBounds_toArray, List.set_cons_zero, List.set_cons_succ]
        refine tkH (v := ?_) (i := 13) rfl (by kernel_rfl) (by kernel_rfl) (by kernel_rfl) (fun _ _ _ h => h) hH (Or.inl ⟨by rfl, ?_⟩) ?_
        rotate_left
        · intro wq hq
          go_simp
          try rfl
        try simp only [Act.put, List.setIfInBounds_toArray, List.set_cons_zero, List.set_cons_succ]
        refine efH (i := 15) rfl (by kernel_rfl) (by rfl) (fun KK hKK => ?_)
        refine wp_store_row 23 _ _ rfl y1.heap.size (vs Z) rfl rfl 23 (vs (zs 32)) o9 (by rw [t23.siz, vs_size, lz]) (by rw [vs_size, vs_size, zs_length, lz]) (vs_one _) ?_
        refine hKK.out _ _ (below_row hH hle _) (fun hH => ?_)
        clear hKK KK hle
        replace o9 := o9.row (vs Z)
        generalize y3.setRow y1.heap.size (vs Z) = yf at *
        try simp only [Act.put, List.setIfInBounds_toArray, List.set_cons_zero, List.set_cons_succ]
        refine tkH (v := ?_) (i := 16) rfl (by kernel_rfl) (by kernel_rfl) (by kernel_rfl) (fun _ _ _ h => h) hH (Or.inl ⟨by rfl, ?_⟩) ?_
        rotate_left
        · intro wq hq
          go_simp
          try rfl
        try simp only [Act.put, List.setIfInBounds_toArray, List.set_cons_zero, List.set_cons_succ]
        refine wpAnyH_done (by kernel_rfl) ?_ _
        try simp only [Act.put, List.getElem_toArray, List.getElem_cons_zero, List.getElem_cons_succ, List.setIfInBounds_toArray, List.set_cons_zero, List.set_cons_succ]
        have rB := o9.rg
        have rA := (o7.below hH).rg
        replace r3 := r3.below hH
        replace b4 := b4.trans (hH.mono b4.size)
        go_wp2_with (first | (refine ldw t23 rfl rfl rfl rA lz ?_) | (refine ldw t23 rfl rfl rfl r3 lz ?_) | (refine ldw t23 rfl rfl rfl rB lz ?_) | (refine cmpw cmp23 false Z Z rfl rfl rfl rfl lz lz bz bz ?_))
        go_ret
        exact ⟨rfl, b4⟩
    · refine wp_of_exec (exec_new z23 rfl y0) ?_
      have hle := hH.size
      refine hKK.out _ _ (hH.alloc hH.size _) (fun hH => ?_)
      clear hKK KK
      try simp only [Act.put, List.setIfInBounds_toArray, List.set_cons_zero, List.set_cons_succ]
      have o9 := Own.new y0 23 (vs (zs 32))
      generalize y0.alloc (Obj.cells (vs (zs 32)) 23) = y1 at *
      refine efH (i := 9) rfl (by kernel_rfl) (by rfl) (fun KK hKK => ?_)
      refine wp_of_exec (exec_lit3 lT lS lU rfl rfl rfl rfl y1) ?_
      refine hKK.out _ _ (hH.alloc hH.size _) (fun hH => ?_)
      clear hKK KK
      try simp only [Act.put, List.setIfInBounds_toArray, List.set_cons_zero, List.set_cons_succ]
      have oL := Own.new y1 34 (vs [T, S, U].flatten)
      replace o9 := o9.alloc (Obj.cells (vs [T, S, U].flatten) 34)
      generalize y1.alloc (Obj.cells (vs [T, S, U].flatten) 34) = y2 at *
      refine efH (i := 10) rfl (by kernel_rfl) (by rfl) (fun KK hKK => ?_)
      go_simp
      refine (HJ.out.2.2.2 _ _ (ss_lit lT lS lU HB.out.2.1 HB.out.1 HB.out.2.2 oL)).mono ?_
      rintro e y3 ⟨rfl, hx⟩
      have hH' := hH.trans (hx.mono hH.size)
      go_wp2_with fail
      refine hKK.out _ _ hH' (fun hH => ?_)
      replace o9 := o9.below hx
      clear hKK KK hH' hx oL
      try simp only [Act.put, List.setIfInBounds_toArray, List.set_cons_zero, List.set_cons_succ]
      refine tkH (v := ?_) (i := 11) rfl (by kernel_rfl) (by kernel_rfl) (by kernel_rfl) (fun _ _ _ h => h) hH (Or.inl ⟨by rfl, ?_⟩) ?_
      rotate_left
      · intro wq hq
        go_simp
        try rfl
      try simp only [Act.put, List.setIfInBounds_toArray, List.set_cons_zero, List.set_cons_succ]
      refine tkH (v := ?_) (i := 12) rfl (by kernel_rfl) (by kernel_rfl) (by kernel_rfl) (fun _ _ _ h => h) hH (Or.inl ⟨by rfl, ?_⟩) ?_
      rotate_left
      · intro wq hq
        go_simp
        try rfl
      try simp only [Act.put, List.setIfInBounds_toArray, List.set_cons_zero, List.set_cons_succ]
      refine tkH (v := ?_) (i := 13) rfl (by kernel_rfl) (by kernel_rfl) (by kernel_rfl) (fun _ _ _ h => h) hH (Or.inl ⟨by rfl, ?_⟩) ?_
      rotate_left
      · intro wq hq
        go_simp
        try rfl
      try simp only [Act.put, List.setIfInBounds_toArray, List.set_cons_zero, List.set_cons_succ]
      refine efH (i := 15) rfl (by kernel_rfl) (by rfl) (fun KK hKK => ?_)
      refine wp_store_row 23 _ _ rfl y0.heap.size (vs Z) rfl rfl 23 (vs (zs 32)) o9 (by rw [t23.siz, vs_size, lz]) (by rw [vs_size, vs_size, zs_length, lz]) (vs_one _) ?_
      refine hKK.out _ _ (below_row hH hle _) (fun hH => ?_)
      clear hKK KK hle
      replace o9 := o9.row (vs Z)
      generalize y3.setRow y0.heap.size (vs Z) = yf at *
      try simp only [Act.put, List.setIfInBounds_toArray, List.set_cons_zero, List.set_cons_succ]
      refine tkH (v := ?_) (i := 16) rfl (by kernel_rfl) (by kernel_rfl) (by kernel_rfl) (fun _ _ _ h => h) hH (Or.inl ⟨by rfl, ?_⟩) ?_
      rotate_left
      · intro wq hq
        go_simp
        try rfl
      try simp only [Act.put, List.setIfInBounds_toArray, List.set_cons_zero, List.set_cons_succ]
      refine wpAnyH_done (by kernel_rfl) ?_ _
      try simp only [Act.put, List.getElem_toArray, List.getElem_cons_zero, List.getElem_cons_succ, List.setIfInBounds_toArray, List.set_cons_zero, List.set_cons_succ]
      have rB := o9.rg
      have rA := (o7.below hH).rg
      replace r3 := r3.below hH
      replace b4 := b4.trans (hH.mono b4.size)
      go_wp2_with (first | (refine ldw t23 rfl rfl rfl rA lz ?_) | (refine ldw t23 rfl rfl rfl r3 lz ?_) | (refine ldw t23 rfl rfl rfl rB lz ?_) | (refine cmpw cmp23 false Z Z rfl rfl rfl rfl lz lz bz bz ?_))
      go_ret
      exact ⟨rfl, b4⟩
set_option maxRecDepth 100000 in
set_option maxHeartbeats 8000000 in
theorem walk (A : Option Addr) (n cap : Nat) (l : List (List Nat)) (W : World) (hs : Ss W A n l) (hn : n ≤ maxLen) :
    Calls Try.prog 4 #[.slice A n cap] W fun e w' => e = .returned (.bool true) ∧ Below W.heap.size W w' := by
  unfold maxLen at hn
  by_cases hbig : 10 < n
  · have hal := alive_any W
    have d0 : decide ((10 : Int) < (n : Int)) = true := by rw [decide_eq_true_iff]; omega
    go_enter Try.func4, Try.ntmps4
    go_wp2_with fail
    refine hal.mono ?_
    rintro e w1 ⟨rfl, hb⟩
    go_wp2_with fail
    go_ret
    exact ⟨rfl, hb⟩
  · by_cases h3 : n = 3
    · subst h3
      obtain ⟨S, T, U, b, o, rfl, lS, lT, lU, bS, bT, bU, rfl, _⟩ := ss3 hs
      cases hk : Sx.ok3 (Gf.nth S 0) (Gf.nth T 0) (Gf.nth U 0)
      · exact walk_bad _ 3 cap _ W hs (by omega) (fun w h => (sjoin3 _ cap S T U w h).mono fun e w' hh => ⟨jis_no hk hh.1, hh.2⟩) (fun w h => (rjoin3 _ cap S T U w h).mono fun e w' hh => ⟨jis_no hk hh.1, hh.2⟩)
      · exact walk_good b o cap S T U W hs lS lT lU bS bT bU hk
    · exact walk_bad A n cap l W hs (by omega) (fun w _ => sjoin_len A n cap h3 w) (fun w _ => rjoin_len A n cap h3 w)

set_option maxRecDepth 100000 in
theorem lifted (os : Os) (started : os.Started) (H : Type) (enc : TypeId × Value → H) :
    ReturnsInHanded {} Try.checked os 4 .any (Rows.shareJoinsSpec.pre6 enc Try.prog Try.f4 Rows.shareJoinsRow.domain false) (Rows.shareJoinsSpec.post enc Try.prog Try.f4 false true false false) := by
  refine returnsInHanded_of_change (C := Try.checked) own started (by kernel_rfl) Try.func4
    (ChangeSpec.witness6 (enc := enc) (C := Try.checked) false ⟨#[], #[.slice none 0 0], []⟩ 8 (by kernel_rfl) (by kernel_rfl) (by kernel_rfl) (by kernel_rfl)) ?_
  intro W base args ds gs before hval0 hW hcnd _
  have hval : ∀ (j : Nat) t v, Try.f4.params[j]? = some t → args[j]? = some v → Value.okWide Try.prog W .any base t v := hval0
  have hW' := hW
  obtain ⟨p, q, hA0, hV, rfl, hfz, hnd⟩ := hW
  have hA : DataW.TrodAll enc Try.prog W 0 (fun _ => true) true Try.f4.params.toList args.toList ds p := hA0
  rw [Try.params4] at hA hval
  obtain ⟨v0, vs0, d0, ds0, p0, q0, hargs, rfl, rfl, h0, r0⟩ := trodAll_cons hA
  obtain ⟨rfl, rfl, rfl⟩ := trodAll_nil r0
  obtain rfl : args = #[v0] := by cases args; simp_all
  obtain ⟨rfl, rfl⟩ := trodVars_none hV
  have k0 := h0
  have lt0 : ∀ x ∈ p0, x.block < W.heap.size := by obtain ⟨m, hm⟩ := k0; exact DataW.trod_lt m _ _ _ hm
  obtain ⟨A0, c0, n0, xs0, rfl, pt0, lm0⟩ := okShares (hval 0 25 v0 rfl rfl) h0
  clear hA0 hval0
  refine (walk A0 n0 c0 xs0 W pt0 lm0).mono fun e W' ⟨he, bel⟩ => ?_
  subst he
  exact ⟨_, rfl, _, _, _, [], _, [], hW', trodAll_mk1 (shut_bool Try.underlying4 _), (trodAll_cons_mk (Below.trod laidOut (by kernel_rfl) (of_decide_eq_true (by kernel_rfl)) k0 bel lt0) trodAll_mk0), rfl, bel.frame _, fun h => by cases h⟩

theorem over : Rows.shareJoinsRow.holds Try.pinned (OpenSpec.ofChange Rows.shareJoinsSpec) :=
  OpenClaim.holds_of_wide 4 Try.f4 rfl rfl rfl rfl rfl rfl rfl ⟨rfl, rfl, rfl, rfl, rfl⟩ rfl rfl rfl rfl rfl (by kernel_rfl) Try.func4 (by kernel_rfl)
    (of_decide_eq_true (by kernel_rfl)) (by unfold Func.isWrapper; first | (rw [if_pos (by decide +kernel)]; kernel_rfl) | (rw [if_neg (by decide +kernel)]; exact ⟨rfl, rfl⟩))
    (fun os started H enc _ => lifted os started H enc)

/-- the statement -/
theorem proved : Rows.ShareJoinsSaid := over
end Go.Proofs.Ytmnenjgipkopdaa.shareJoins
