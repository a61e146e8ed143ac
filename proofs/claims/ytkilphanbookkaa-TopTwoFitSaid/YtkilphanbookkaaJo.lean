/-
  THE WALK of the code's Join.
-/
import Derived.Test.YtkilphanbookkaaJl
namespace Go.Proofs.Ytkilphanbookkaa
open Go.RowKit
set_option linter.unusedVariables false
set_option linter.unusedSimpArgs false
/-- what three shares are joined to -/
def JIs (S T U : List Nat) (e : Ending) : Prop :=
  e = if Sx.ok3 (Gf.nth S 0) (Gf.nth T 0) (Gf.nth U 0) = true then .returned (.tuple #[.agg (vs (Sx.at3 S T U 0)), .int .i64 0]) else .returned (.tuple #[.agg (vs (zs 32)), .int .i64 1])
theorem JIs.yes {S T U : List Nat} (h : Sx.ok3 (Gf.nth S 0) (Gf.nth T 0) (Gf.nth U 0) = true) : JIs S T U (.returned (.tuple #[.agg (vs (Sx.at3 S T U 0)), .int .i64 0])) := by unfold JIs; rw [if_pos h]
theorem JIs.no {S T U : List Nat} (h : Sx.ok3 (Gf.nth S 0) (Gf.nth T 0) (Gf.nth U 0) = false) : JIs S T U (.returned (.tuple #[.agg (vs (zs 32)), .int .i64 1])) := by unfold JIs; rw [if_neg (by rw [h]; simp)]
def x3 (S T U : List Nat) (k : Nat) : Nat := Gf.nth (nthL [S, T, U] k) 0
theorem fil3 (S T U : List Nat) : fil 3 (x3 S T U) 3 = [Gf.nth S 0, Gf.nth T 0, Gf.nth U 0] := by
  simp [fil, List.range_succ, x3, nthL]
theorem n3_len {S T U : List Nat} (hS : S.length = 33) (hT : T.length = 33) (hU : U.length = 33) {k : Nat} (hk : k < 3) : (nthL [S, T, U] k).length = 33 := by
  match k, hk with
  | 0, _ => exact hS
  | 1, _ => exact hT
  | 2, _ => exact hU
theorem n3_byt {S T U : List Nat} (hS : Gf.Bytes S) (hT : Gf.Bytes T) (hU : Gf.Bytes U) {k : Nat} (hk : k < 3) : Gf.Bytes (nthL [S, T, U] k) := by
  match k, hk with
  | 0, _ => exact hS
  | 1, _ => exact hT
  | 2, _ => exact hU
theorem ok3_zero {S T U : List Nat} {k : Nat} (hk : k < 3) (h : x3 S T U k = 0) : Sx.ok3 (Gf.nth S 0) (Gf.nth T 0) (Gf.nth U 0) = false := by
  rw [Bool.eq_false_iff]
  intro h'
  rw [Sx.ok3_iff] at h'
  match k, hk, h with
  | 0, _, h => exact h'.1 h
  | 1, _, h => exact h'.2.1 h
  | 2, _, h => exact h'.2.2.1 h
theorem ok3_dup {S T U : List Nat} (h : ∀ j, j < 3 → x3 S T U j ≠ 0) : Sx.ok3 (Gf.nth S 0) (Gf.nth T 0) (Gf.nth U 0) = !Gf.dup [Gf.nth S 0, Gf.nth T 0, Gf.nth U 0] := by
  rw [Sx.dup3, Bool.not_not]
  have h0 : Gf.nth S 0 ≠ 0 := h 0 (by omega)
  have h1 : Gf.nth T 0 ≠ 0 := h 1 (by omega)
  have h2 : Gf.nth U 0 ≠ 0 := h 2 (by omega)
  simp only [Sx.ok3, bne_iff_ne.2 h0, bne_iff_ne.2 h1, bne_iff_ne.2 h2, Bool.true_and]
theorem ss3 {w : World} {A : Option Addr} {l : List (List Nat)} (h : Ss w A 3 l) : ∃ S T U b o, l = [S, T, U] ∧ S.length = 33 ∧ T.length = 33 ∧ U.length = 33 ∧ Gf.Bytes S ∧ Gf.Bytes T ∧ Gf.Bytes U ∧ A = some ⟨b, o, none⟩ ∧ Rg w b o S ∧ Rg w b (o + 33) T ∧ Rg w b (o + 66) U := by
  obtain ⟨hl, ha, hr'⟩ := h
  obtain ⟨b, o, rfl, hr⟩ := hr' (by omega)
  clear hr'
  match l, hl with
  | [S, T, U], _ =>
    have h1 := ha S (by simp)
    have h2 := ha T (by simp)
    have h3 := ha U (by simp)
    have a0 := rg_at (n := 3) (fun s hs => (ha s hs).1) hr (i := 0) (by simp)
    have a1 := rg_at (n := 3) (fun s hs => (ha s hs).1) hr (i := 1) (by simp)
    have a2 := rg_at (n := 3) (fun s hs => (ha s hs).1) hr (i := 2) (by simp)
    exact ⟨S, T, U, b, o, rfl, h1.1, h2.1, h3.1, h1.2, h2.2, h3.2, rfl, a0, a1, a2⟩
theorem exec_b3 {x1 y1 z1 : Nat} {ρ : Operand → Value} {o : Oper} {x y z : Operand} (ho : o.op = .buildSlice 29 3 #[(0, x), (1, y), (2, z)]) (hx : ρ x = .int .u8 (x1 : Int)) (hy : ρ y = .int .u8 (y1 : Int)) (hz : ρ z = .int .u8 (z1 : Int)) (w : World) :
    (execOp ρ o).run Try.prog w = .ok (.value (.slice (some ⟨w.heap.size, 0, none⟩) 3 3)) (w.alloc (.cells (vs [x1, y1, z1]) 5)) := by
  obtain ⟨i, hi, hzz⟩ := Option.map_eq_some_iff.1 info5
  simp only [Prod.mk.injEq] at hzz
  obtain ⟨h1, h2, h3⟩ := hzz
  have hf := Go.Great.fill_whole (s := 1) (by omega) [Value.int .u8 (x1 : Int), .int .u8 (y1 : Int), .int .u8 (z1 : Int)] ((Array.range (3 * 1)).map ((Value.int .u8 0).cells[· % (Value.int .u8 0).cells.size]!)) (fun v hv => by
    simp at hv
    rcases hv with rfl | rfl | rfl <;> rfl) (by simp)
  have hp : (#[((0 : Nat), x), (1, y), (2, z)].map fun (i, x) => (i, ρ x)).toList = ([Value.int .u8 (x1 : Int), .int .u8 (y1 : Int), .int .u8 (z1 : Int)].zipIdx 0).map fun x => (x.2, x.1) := by simp [hx, hy, hz]
  rw [← hp] at hf
  have h := run_buildSlice (P := Try.prog) w 29 5 3 (#[((0 : Nat), x), (1, y), (2, z)].map fun (i, x) => (i, ρ x)) _ i (.int .u8 0) Try.underlying29 hi h1 (by rw [h2]; omega) (by rw [h2]; omega) (by rw [h2]; exact hf)
  unfold execOp
  simp only [ho, Sem.run_bind, h, Result.andThen_ok, Sem.run_pure]
  rfl
theorem size_set (w : World) (p : Addr) (u : Value) : (w.setCell p u).heap.size = w.heap.size := by simp [World.setCell]
theorem flat3 {w : World} {b : Nat} {S T U : List Nat} (lS : S.length = 33) (lT : T.length = 33) (lU : U.length = 33) (h : Rg w b 0 [S, T, U].flatten) {i : Nat} (hi : i < 32) :
    w.cell? ⟨b, 1 + i, none⟩ = some (.int .u8 (Gf.nth S (1 + i) : Nat)) ∧ w.cell? ⟨b, 34 + i, none⟩ = some (.int .u8 (Gf.nth T (1 + i) : Nat)) ∧ w.cell? ⟨b, 67 + i, none⟩ = some (.int .u8 (Gf.nth U (1 + i) : Nat)) := by
  have h33 : ∀ s ∈ [S, T, U], s.length = 33 := fun s hs => by simp at hs; rcases hs with rfl | rfl | rfl <;> assumption
  have a0 := (rg_at (n := 3) h33 h (i := 0) (by simp)).cell (i := 1 + i) (by show 1 + i < S.length; omega)
  have a1 := (rg_at (n := 3) h33 h (i := 1) (by simp)).cell (i := 1 + i) (by show 1 + i < T.length; omega)
  have a2 := (rg_at (n := 3) h33 h (i := 2) (by simp)).cell (i := 1 + i) (by show 1 + i < U.length; omega)
  refine ⟨?_, ?_, ?_⟩
  · rw [show 1 + i = 0 + 0 * 33 + (1 + i) from by omega]; rw [show Gf.nth S (0 + 0 * 33 + (1 + i)) = Gf.nth S (1 + i) from by congr 1; omega]; exact a0
  · rw [show 34 + i = 0 + 1 * 33 + (1 + i) from by omega]; exact a1
  · rw [show 67 + i = 0 + 2 * 33 + (1 + i) from by omega]; exact a2
theorem cell_in {w w' : World} {b f : Nat} {v : Value} (h : w.cell? ⟨b, f, none⟩ = some v) (hb : Below w.heap.size w w') : w'.cell? ⟨b, f, none⟩ = some v := (hb.cell (p := ⟨b, f, none⟩) (World.block_lt_of_cell? _ _ h)).trans h
theorem rgB {w w' : World} {C b o : Nat} {l : List Nat} (h : Rg w b o l) (hb : Below C w w') (hC : b < C) : Rg w' b o l := fun j v hj => (hb.cell (p := ⟨b, o + j, none⟩) hC).trans (h j v hj)
theorem at3_yes {a b c d e f X : Nat} {E : Ending} (hd : Gf.dup [a, b, c] = false) (h : AtIs [a, b, c] [d, e, f] X E) : E = .returned (.tuple #[.int .u8 (Gf.atk [a, b, c] [d, e, f] X 3 : Nat), .bool true]) := by
  unfold AtIs at h
  rw [if_pos ⟨rfl, hd⟩] at h
  exact h
theorem at3_no {a b c d e f X : Nat} {E : Ending} (hd : Gf.dup [a, b, c] = true) (h : AtIs [a, b, c] [d, e, f] X E) : E = .returned (.tuple #[.int .u8 0, .bool false]) := by
  unfold AtIs at h
  rw [if_neg (by rw [hd]; simp)] at h
  exact h
set_option maxRecDepth 100000 in
set_option maxHeartbeats 2000000 in
theorem sjoin_len (A : Option Addr) (n cap : Nat) (hn : n ≠ 3) (w : World) : Calls Try.prog 9 #[.slice A n cap] w fun e w' => e = .returned (.tuple #[.agg (vs (zs 32)), .int .i64 1]) ∧ Below w.heap.size w w' := by
  have t1 : ((n : Int) != 3) = true := by rw [bne_iff_ne]; omega
  have oR := Own.new w 23 (vs (zs 32))
  have bW := (Below.refl w.heap.size w).alloc (Nat.le_refl _) (Obj.cells (vs (zs 32)) 23)
  clear hn
  go_enter Try.func9, Try.ntmps9
  go_wp2_with (first | (refine alz z23 rfl rfl ?_) | (refine bld23z rfl rfl ?_) | (refine sto t23 rfl rfl rfl rfl oR (zs_length _) (zs_length _) ?_))
  exact res2 t23 rfl rfl rfl (oR.row _) (zs_length _) rfl ⟨rfl, below_row bW (Nat.le_refl _) _⟩
set_option maxRecDepth 100000 in
set_option maxHeartbeats 4000000 in
theorem sjoin3 (A : Option Addr) (cap : Nat) (S T U : List Nat) (w : World) (hs : Ss w A 3 [S, T, U]) : Calls Try.prog 9 #[.slice A 3 cap] w fun e w' => JIs S T U e ∧ Below w.heap.size w w' := by
  obtain ⟨S', T', U', b, o, he, lS, lT, lU, bS, bT, bU, rfl, rS, rT, rU⟩ := ss3 hs
  injection he with he1 he
  injection he with he2 he
  injection he with he3 _
  subst he1 he2 he3
  clear hs
  have oR := Own.new w 23 (vs (zs 32))
  have bW := (Below.refl w.heap.size w).alloc (Nat.le_refl _) (Obj.cells (vs (zs 32)) 23)
  have hz : (w.alloc (Obj.cells (vs (zs 32)) 23)).heap.size = w.heap.size + 1 := Array.size_push ..
  replace rS := rS.alloc (Obj.cells (vs (zs 32)) 23)
  replace rT := rT.alloc (Obj.cells (vs (zs 32)) 23)
  replace rU := rU.alloc (Obj.cells (vs (zs 32)) 23)
  have HB := Lib.hid (And.intro bS (And.intro bT bU))
  clear bS bT bU
  go_enter Try.func9, Try.ntmps9
  go_wp2_with (refine alz z23 rfl rfl ?_)
  generalize w.alloc (Obj.cells (vs (zs 32)) 23) = w1 at *
  generalize hg : w.heap.size = g at *
  have HG := Lib.hid hg
  have HZ : Hid (w1.drew.heap.size = g + 1) := Lib.hid hz
  clear hg hz
  replace rS := rS.drew
  replace rT := rT.drew
  replace rU := rU.drew
  replace oR := oR.drew
  replace bW := bW.drew
  refine wp_region_held_drew (S := fun w' => Below w1.drew.heap.size w1.drew w') (by kernel_rfl) (Below.refl _ _) (fun hH => ?_)
  generalize w1.drew = w2 at *
  refine tkH (v := ?_) (i := 0) rfl (by kernel_rfl) (by kernel_rfl) (by kernel_rfl) (fun _ _ _ h => h) hH (Or.inl ⟨by rfl, ?_⟩) ?_
  rotate_left
  · intro wq hq
    go_simp
    try rfl
  try simp only [Act.put, List.setIfInBounds_toArray, List.set_cons_zero, List.set_cons_succ]
  refine tkH (v := ?_) (i := 1) rfl (by kernel_rfl) (by kernel_rfl) (by kernel_rfl) (fun _ _ _ h => h) hH (Or.inl ⟨by rfl, ?_⟩) ?_
  rotate_left
  · intro wq hq
    go_simp
    try rfl
  try simp only [Act.put, List.setIfInBounds_toArray, List.set_cons_zero, List.set_cons_succ]
  refine tkH (i := 2) rfl (by kernel_rfl) (by kernel_rfl) (by kernel_rfl) (fun _ _ _ h => h) hH (yld t34 (by rfl) rfl rfl S rS lS) ?_
  try simp only [Act.put, List.setIfInBounds_toArray, List.set_cons_zero, List.set_cons_succ]
  refine tkH (v := ?_) (i := 3) rfl (by kernel_rfl) (by kernel_rfl) (by kernel_rfl) (fun _ _ _ h => h) hH (Or.inl ⟨by rfl, ?_⟩) ?_
  rotate_left
  · intro wq hq
    go_simp
    try rfl
  try simp only [Act.put, List.setIfInBounds_toArray, List.set_cons_zero, List.set_cons_succ]
  refine tkH (v := ?_) (i := 4) rfl (by kernel_rfl) (by kernel_rfl) (by kernel_rfl) (fun _ _ _ h => h) hH (Or.inl ⟨by rfl, ?_⟩) ?_
  rotate_left
  · intro wq hq
    go_simp
    try rfl
  try simp only [Act.put, List.setIfInBounds_toArray, List.set_cons_zero, List.set_cons_succ]
  refine tkH (i := 5) rfl (by kernel_rfl) (by kernel_rfl) (by kernel_rfl) (fun _ _ _ h => h) hH (yld t34 (by rfl) rfl rfl T rT lT) ?_
  try simp only [Act.put, List.setIfInBounds_toArray, List.set_cons_zero, List.set_cons_succ]
  refine tkH (v := ?_) (i := 6) rfl (by kernel_rfl) (by kernel_rfl) (by kernel_rfl) (fun _ _ _ h => h) hH (Or.inl ⟨by rfl, ?_⟩) ?_
  rotate_left
  · intro wq hq
    go_simp
    try rfl
  try simp only [Act.put, List.setIfInBounds_toArray, List.set_cons_zero, List.set_cons_succ]
  refine tkH (v := ?_) (i := 7) rfl (by kernel_rfl) (by kernel_rfl) (by kernel_rfl) (fun _ _ _ h => h) hH (Or.inl ⟨by rfl, ?_⟩) ?_
  rotate_left
  · intro wq hq
    go_simp
    try rfl
  try simp only [Act.put, List.setIfInBounds_toArray, List.set_cons_zero, List.set_cons_succ]
  refine tkH (i := 8) rfl (by kernel_rfl) (by kernel_rfl) (by kernel_rfl) (fun _ _ _ h => h) hH (yld t34 (by rfl) rfl rfl U rU lU) ?_
  try simp only [Act.put, List.setIfInBounds_toArray, List.set_cons_zero, List.set_cons_succ]
  refine tkH (i := 9) rfl (by kernel_rfl) (by kernel_rfl) (by kernel_rfl) (fun _ _ _ h => h) hH (ybld lS lT lU (by rfl) rfl rfl rfl rfl) ?_
  try simp only [Act.put, List.setIfInBounds_toArray, List.set_cons_zero, List.set_cons_succ]
  refine efH (i := 10) rfl (by kernel_rfl) (by rfl) (fun KK hKK => ?_)
  refine wp_of_exec (exec_new z50 rfl w2) ?_
  refine hKK.out _ _ ((Below.refl _ w2).alloc (Nat.le_refl _) _) (fun hH => ?_)
  clear hKK KK
  try simp only [Act.put, List.setIfInBounds_toArray, List.set_cons_zero, List.set_cons_succ]
  refine efH (i := 11) rfl (by kernel_rfl) (by rfl) (fun KK hKK => ?_)
  refine wp_store_row 41 _ _ rfl w2.heap.size (vs [S, T, U].flatten) rfl rfl 41 (vs (zs 99)) (Own.new _ _ _) (by rw [t50.siz, vs_size]; simp [lS, lT, lU]) (by rw [vs_size, vs_size, zs_length]; simp [lS, lT, lU]) (vs_one _) ?_
  rw [World.setRow_alloc_new]
  refine hKK.out _ _ ((Below.refl _ w2).alloc (Nat.le_refl _) _) (fun hH => ?_)
  clear hKK KK
  try simp only [Act.put, List.setIfInBounds_toArray, List.set_cons_zero, List.set_cons_succ]
  refine wpAnyH_done (by kernel_rfl) ?_ _
  try simp only [Act.put, List.getElem_toArray, List.getElem_cons_zero, List.getElem_cons_succ, List.setIfInBounds_toArray, List.set_cons_zero, List.set_cons_succ]
  have o3 := Own.new w2 41 (vs [S, T, U].flatten)
  replace oR := oR.alloc (Obj.cells (vs [S, T, U].flatten) 41)
  replace bW := bW.alloc (by rw [HZ.out]; omega) (Obj.cells (vs [S, T, U].flatten) 41)
  have hz3 : (w2.alloc (Obj.cells (vs [S, T, U].flatten) 41)).heap.size = w2.heap.size + 1 := Array.size_push ..
  rw [HZ.out] at o3 hz3 ⊢
  have e1 := HZ.out
  have lF : [S, T, U].flatten.length = 99 := by simp [lS, lT, lU]
  have hix := fun k (hk : k < 3) w => idx50 lS lT lU hk w
  have HIX := Lib.hid hix
  clear rS rT rU hH HZ hix
  generalize hF : [S, T, U].flatten = F at *
  have HF := Lib.hid hF
  clear hF
  generalize w2.alloc (Obj.cells (vs F) 41) = w3 at *
  have HE := Lib.hid e1
  clear e1
  have o4 := Own.new' w3 5 (vs (zs 3)) hz3.symm
  replace o3 := o3.alloc (Obj.cells (vs (zs 3)) 5)
  replace oR := oR.alloc (Obj.cells (vs (zs 3)) 5)
  replace bW := bW.alloc (by rw [hz3]; omega) (Obj.cells (vs (zs 3)) 5)
  have hmk : (Instr.makeSlice 29 (.int .i64 3) (.int .i64 3)).run Try.prog w3 = .ok (.slice (some ⟨w3.heap.size, 0, none⟩) 3 3) (w3.alloc (.cells (vs (zs 3)) 5)) := mk38 3 (by omega) w3
  rw [hz3] at hmk
  have HZ3 := Lib.hid hz3
  clear hz3
  have r3 := o3.rg
  go_wp2_with (refine ld t50 rfl rfl rfl r3 lF ?_)
  generalize w3.alloc (Obj.cells (vs (zs 3)) 5) = w4 at *
  rw [show zs 3 = fil 3 (x3 S T U) 0 from by rw [fil_zero]; rfl] at o4
  go_loopw [28] (fun i wr => ∃ k : Nat, k ≤ 3 ∧ i = .int .i64 k ∧ (∀ j, j < k → x3 S T U j ≠ 0) ∧ Own wr (g + 1 + 1) 5 (vs (fil 3 (x3 S T U) k)) ∧ Below (g + 1 + 1) w4 wr) (fun i _ => 3 - (intOf i).toNat)
  case atStart => exact ⟨0, by omega, rfl, fun j hj => absurd hj (by omega), o4, Below.refl _ _⟩
  case round =>
    clear o4 hmk
    obtain ⟨k, hk, rfl, hnz, oX, hb⟩ := hrel
    generalize wr = wo at *
    have HN := Lib.hid hnz
    clear hnz
    by_cases hlt : k < 3
    · have i0 : (k : Int) < 3 := by omega
      have hi := HIX.out k hlt
      have lk := n3_len lS lT lU hlt
      have bk := n3_byt HB.out.1 HB.out.2.1 HB.out.2.2 hlt
      have hxk : Gf.nth (nthL [S, T, U] k) 0 = x3 S T U k := rfl
      generalize nthL [S, T, U] k = Y at *
      have hzo : g + 1 + 1 < wo.heap.size := oX.lt
      have oY := Own.new wo 31 (vs Y)
      have oX1 := oX.alloc (Obj.cells (vs Y) 31)
      have hb1 := hb.alloc (by omega) (Obj.cells (vs Y) 31)
      have cY := oY.cellb (i := 0) (by omega)
      rw [hxk] at cY
      have HXK := Lib.hid hxk
      clear hxk
      by_cases h0 : x3 S T U k = 0
      · have t0 : (((x3 S T U k : Nat) : Int) == 0) = true := by simp [h0]
        have H0 := Lib.hid h0
        clear h0
        have oR1 := (oR.belowB hb (by omega)).alloc (Obj.cells (vs Y) 31)
        go_wp2_with (first | (refine alz z34 rfl rfl ?_) | (refine sto_new t34 rfl rfl rfl rfl rfl ((vs_size _).trans (zs_length _)) lk ?_) | (refine bld23z rfl rfl ?_) | (refine sto t23 rfl rfl rfl rfl oR1 (zs_length _) (zs_length _) ?_))
        refine res2 t23 rfl rfl rfl (oR1.row _) (zs_length _) rfl ⟨JIs.no (ok3_zero hlt H0.out), ?_⟩
        rw [HG.out]
        exact below_row (bW.trans (hb1.mono (by omega))) (Nat.le_refl _) _
      · have t0 : (((x3 S T U k : Nat) : Int) == 0) = false := by rw [beq_eq_false_iff_ne]; omega
        have H0 := Lib.hid h0
        clear h0
        have fX := oX1.frozen k
        have cX := oX1.cellb (i := k) (by rw [fil_length]; exact hlt)
        go_wp2_with (first | (refine alz z34 rfl rfl ?_) | (refine sto_new t34 rfl rfl rfl rfl rfl ((vs_size _).trans (zs_length _)) lk ?_))
        have oX2 := oX.setb k (x3 S T U k)
        rw [fil_set _ _ _ hlt] at oX2
        replace oX2 := oX2.alloc (Obj.cells (vs Y) 31)
        clear cY cX fX
        go_roundw
        case rel => exact ⟨k + 1, by omega, by go_num, (fun j hj => by
          by_cases h : j < k
          · exact HN.out j h
          · obtain rfl : j = k := by omega
            exact H0.out), oX2, (hb.setCell (p := ⟨g + 1 + 1, k, none⟩) (Nat.le_refl _) _).alloc (by rw [size_set]; omega) _⟩
        case measure => first | (simp [intOf]; done) | (simp [intOf]; omega)
    · obtain rfl : k = 3 := by omega
      have i0 : decide ((3 : Int) < 3) = false := by decide
      rw [fil3] at oX
      have hXb : Gf.Bytes [Gf.nth S 0, Gf.nth T 0, Gf.nth U 0] := Sx.three_bytes (HB.out.1.at_ 0) (HB.out.2.1.at_ 0) (HB.out.2.2.at_ 0)
      have rX := oX.rg
      have hok := ok3_dup HN.out
      have hgo : g + 1 + 1 < wo.heap.size := oX.lt
      have o5 := Own.new wo 23 (vs (zs 32))
      replace rX := rX.alloc (Obj.cells (vs (zs 32)) 23)
      have r6 := ((o3.belowB hb (by omega)).alloc (Obj.cells (vs (zs 32)) 23)).rg
      rw [← HF.out] at r6
      have oR6 := (oR.belowB hb (by omega)).alloc (Obj.cells (vs (zs 32)) 23)
      have b6 := (bW.trans (hb.mono (by omega))).alloc (by omega) (Obj.cells (vs (zs 32)) 23)
      clear oX oR o3 r3 bW
      go_wp2_with (refine alz z23 rfl rfl ?_)
      have hz6 : (wo.alloc (Obj.cells (vs (zs 32)) 23)).heap.size = wo.heap.size + 1 := Array.size_push ..
      generalize wo.alloc (Obj.cells (vs (zs 32)) 23) = w6 at *
      generalize hg5 : wo.heap.size = g5 at *
      have HG5 := Lib.hid hg5
      clear hg5 hb
      cases hd : Gf.dup [Gf.nth S 0, Gf.nth T 0, Gf.nth U 0]
      · rw [hd] at hok
        rw [show zs 32 = fil 32 (Sx.tell S T U 0) 0 from by rw [fil_zero]; rfl] at o5
        go_loopw [42] (fun i wr => ∃ i' : Nat, i' ≤ 32 ∧ i = .int .i64 i' ∧ Own wr g5 23 (vs (fil 32 (Sx.tell S T U 0) i')) ∧ Below g5 w6 wr) (fun i _ => 32 - (intOf i).toNat)
        case atStart => exact ⟨0, by omega, rfl, o5, Below.refl _ _⟩
        case round =>
          clear o5
          obtain ⟨i, hi, rfl, oO, hb⟩ := hrel
          generalize wr = wi at *
          by_cases hlt : i < 32
          · have i0 : (i : Int) < 32 := by omega
            have oO1 := oO.drew
            have hb1 := hb.drew
            have rX1 := (rgB rX hb (by omega)).drew
            obtain ⟨f1, f2, f3⟩ := flat3 lS lT lU (rgB r6 hb (by omega)).drew hlt
            have j1 : (Gf.nth S (1 + i)) < 256 := HB.out.1.at_ _
            have j2 : (Gf.nth T (1 + i)) < 256 := HB.out.2.1.at_ _
            have j3 : (Gf.nth U (1 + i)) < 256 := HB.out.2.2.at_ _
            have htl : Gf.atk [Gf.nth S 0, Gf.nth T 0, Gf.nth U 0] [Gf.nth S (1 + i), Gf.nth T (1 + i), Gf.nth U (1 + i)] 0 3 = Sx.tell S T U 0 i := rfl
            have hgi : g5 < wi.heap.size := oO.lt
            have HGI : Hid (g5 < wi.drew.heap.size) := Lib.hid hgi
            clear oO hb hgi
            generalize Gf.nth S (1 + i) = y1 at *
            generalize Gf.nth T (1 + i) = y2 at *
            generalize Gf.nth U (1 + i) = y3 at *
            have HT := Lib.hid htl
            clear htl
            go_wp2_with fail
            refine wp_region_held_drew (S := fun w' => Below wi.drew.heap.size wi.drew w') (by kernel_rfl) (Below.refl _ _) (fun hH => ?_)
            generalize wi.drew = wj at *
            refine tkH (v := ?_) (i := 0) rfl (by kernel_rfl) (by kernel_rfl) (by kernel_rfl) (fun _ _ _ h => h) hH (Or.inl ⟨by rfl, ?_⟩) ?_
            rotate_left
            · intro wq hq
              go_simp
              try rfl
            try simp only [Act.put, List.setIfInBounds_toArray, List.set_cons_zero, List.set_cons_succ]
            refine tkH (v := ?_) (i := 1) rfl (by kernel_rfl) (by kernel_rfl) (by kernel_rfl) (fun _ _ _ h => h) hH (Or.inl ⟨by rfl, ?_⟩) ?_
            rotate_left
            · intro wq hq
              go_simp
              try rfl
            try simp only [Act.put, List.setIfInBounds_toArray, List.set_cons_zero, List.set_cons_succ]
            refine tkH (v := ?_) (i := 2) rfl (by kernel_rfl) (by kernel_rfl) (by kernel_rfl) (fun _ _ _ h => h) hH (Or.inl ⟨by rfl, ?_⟩) ?_
            rotate_left
            · intro wq hq
              go_simp
              try rfl
            try simp only [Act.put, List.setIfInBounds_toArray, List.set_cons_zero, List.set_cons_succ]
            refine tkH (v := ?_) (i := 3) rfl (by kernel_rfl) (by kernel_rfl) (by kernel_rfl) (fun _ _ _ h => h) hH (Or.inl ⟨by rfl, ?_⟩) ?_
            rotate_left
            · intro wq hq
              go_simp
              try rfl
            try simp only [Act.put, List.setIfInBounds_toArray, List.set_cons_zero, List.set_cons_succ]
            refine tkH (v := ?_) (i := 4) rfl (by kernel_rfl) (by kernel_rfl) (by kernel_rfl) (fun _ _ _ h => h) hH (Or.inl ⟨by rfl, ?_⟩) ?_
            rotate_left
            · intro wq hq
              go_simp
              try rfl
            try simp only [Act.put, List.setIfInBounds_toArray, List.set_cons_zero, List.set_cons_succ]
            refine tkH (v := ?_) (i := 5) rfl (by kernel_rfl) (by kernel_rfl) (by kernel_rfl) (fun _ _ _ h => h) hH (Or.inl ⟨by rfl, ?_⟩) ?_
            rotate_left
            · intro wq hq
              have c := cell_in f1 hq
              go_simp
              try rfl
            try simp only [Act.put, List.setIfInBounds_toArray, List.set_cons_zero, List.set_cons_succ]
            refine tkH (v := ?_) (i := 6) rfl (by kernel_rfl) (by kernel_rfl) (by kernel_rfl) (fun _ _ _ h => h) hH (Or.inl ⟨by rfl, ?_⟩) ?_
            rotate_left
            · intro wq hq
              go_simp
              try rfl
            try simp only [Act.put, List.setIfInBounds_toArray, List.set_cons_zero, List.set_cons_succ]
            refine tkH (v := ?_) (i := 7) rfl (by kernel_rfl) (by kernel_rfl) (by kernel_rfl) (fun _ _ _ h => h) hH (Or.inl ⟨by rfl, ?_⟩) ?_
            rotate_left
            · intro wq hq
              go_simp
              try rfl
            try simp only [Act.put, List.setIfInBounds_toArray, List.set_cons_zero, List.set_cons_succ]
            refine tkH (v := ?_) (i := 8) rfl (by kernel_rfl) (by kernel_rfl) (by kernel_rfl) (fun _ _ _ h => h) hH (Or.inl ⟨by rfl, ?_⟩) ?_
            rotate_left
            · intro wq hq
              go_simp
              try rfl
            try simp only [Act.put, List.setIfInBounds_toArray, List.set_cons_zero, List.set_cons_succ]
            refine tkH (v := ?_) (i := 9) rfl (by kernel_rfl) (by kernel_rfl) (by kernel_rfl) (fun _ _ _ h => h) hH (Or.inl ⟨by rfl, ?_⟩) ?_
            rotate_left
            · intro wq hq
              go_simp
              try rfl
            try simp only [Act.put, List.setIfInBounds_toArray, List.set_cons_zero, List.set_cons_succ]
            refine tkH (v := ?_) (i := 10) rfl (by kernel_rfl) (by kernel_rfl) (by kernel_rfl) (fun _ _ _ h => h) hH (Or.inl ⟨by rfl, ?_⟩) ?_
            rotate_left
            · intro wq hq
              have c := cell_in f2 hq
              go_simp
              try rfl
            try simp only [Act.put, List.setIfInBounds_toArray, List.set_cons_zero, List.set_cons_succ]
            refine tkH (v := ?_) (i := 11) rfl (by kernel_rfl) (by kernel_rfl) (by kernel_rfl) (fun _ _ _ h => h) hH (Or.inl ⟨by rfl, ?_⟩) ?_
            rotate_left
            · intro wq hq
              go_simp
              try rfl
            try simp only [Act.put, List.setIfInBounds_toArray, List.set_cons_zero, List.set_cons_succ]
            refine tkH (v := ?_) (i := 12) rfl (by kernel_rfl) (by kernel_rfl) (by kernel_rfl) (fun _ _ _ h => h) hH (Or.inl ⟨by rfl, ?_⟩) ?_
            rotate_left
            · intro wq hq
              go_simp
              try rfl
            try simp only [Act.put, List.setIfInBounds_toArray, List.set_cons_zero, List.set_cons_succ]
            refine tkH (v := ?_) (i := 13) rfl (by kernel_rfl) (by kernel_rfl) (by kernel_rfl) (fun _ _ _ h => h) hH (Or.inl ⟨by rfl, ?_⟩) ?_
            rotate_left
            · intro wq hq
              go_simp
              try rfl
            try simp only [Act.put, List.setIfInBounds_toArray, List.set_cons_zero, List.set_cons_succ]
            refine tkH (v := ?_) (i := 14) rfl (by kernel_rfl) (by kernel_rfl) (by kernel_rfl) (fun _ _ _ h => h) hH (Or.inl ⟨by rfl, ?_⟩) ?_
            rotate_left
            · intro wq hq
              go_simp
              try rfl
            try simp only [Act.put, List.setIfInBounds_toArray, List.set_cons_zero, List.set_cons_succ]
            refine tkH (v := ?_) (i := 15) rfl (by kernel_rfl) (by kernel_rfl) (by kernel_rfl) (fun _ _ _ h => h) hH (Or.inl ⟨by rfl, ?_⟩) ?_
            rotate_left
            · intro wq hq
              have c := cell_in f3 hq
              go_simp
              try rfl
            try simp only [Act.put, List.setIfInBounds_toArray, List.set_cons_zero, List.set_cons_succ]
            refine efH (i := 16) rfl (by kernel_rfl) (by rfl) (fun KK hKK => ?_)
            refine wp_of_exec (exec_b3 (x1 := y1) (y1 := y2) (z1 := y3) rfl rfl rfl rfl wj) ?_
            refine hKK.out _ _ ((Below.refl _ wj).alloc (Nat.le_refl _) _) (fun hH => ?_)
            clear hKK KK
            try simp only [Act.put, List.setIfInBounds_toArray, List.set_cons_zero, List.set_cons_succ]
            refine efH (i := 17) rfl (by kernel_rfl) (by rfl) (fun KK hKK => ?_)
            go_simp
            refine (at_any _ _ 3 3 3 3 [Gf.nth S 0, Gf.nth T 0, Gf.nth U 0] [y1, y2, y3] 0 _ (by omega) (by omega) (by omega) ((rX1.alloc (Obj.cells (vs [y1, y2, y3]) 5)).bs hXb) ((Own.new wj 5 (vs [y1, y2, y3])).rg.bs (Sx.three_bytes j1 j2 j3))).mono ?_
            rintro e w8 ⟨he, hx⟩
            have hH' := hH.trans (hx.mono hH.size)
            obtain rfl := at3_yes hd he
            clear he
            rw [HT.out]
            have oO8 := (oO1.alloc (Obj.cells (vs [y1, y2, y3]) 5)).below hx
            go_wp2_with fail
            refine hKK.out _ _ hH' (fun hH => ?_)
            clear hKK KK hH'
            try simp only [Act.put, List.setIfInBounds_toArray, List.set_cons_zero, List.set_cons_succ]
            refine tkH (v := ?_) (i := 18) rfl (by kernel_rfl) (by kernel_rfl) (by kernel_rfl) (fun _ _ _ h => h) hH (Or.inl ⟨by rfl, ?_⟩) ?_
            rotate_left
            · intro wq hq
              go_simp
              try rfl
            try simp only [Act.put, List.setIfInBounds_toArray, List.set_cons_zero, List.set_cons_succ]
            refine tkH (v := ?_) (i := 19) rfl (by kernel_rfl) (by kernel_rfl) (by kernel_rfl) (fun _ _ _ h => h) hH (Or.inl ⟨by rfl, ?_⟩) ?_
            rotate_left
            · intro wq hq
              go_simp
              try rfl
            try simp only [Act.put, List.setIfInBounds_toArray, List.set_cons_zero, List.set_cons_succ]
            refine tkH (v := ?_) (i := 20) rfl (by kernel_rfl) (by kernel_rfl) (by kernel_rfl) (fun _ _ _ h => h) hH (Or.inl ⟨by rfl, ?_⟩) ?_
            rotate_left
            · intro wq hq
              go_simp
              try rfl
            try simp only [Act.put, List.setIfInBounds_toArray, List.set_cons_zero, List.set_cons_succ]
            refine tkH (v := ?_) (i := 21) rfl (by kernel_rfl) (by kernel_rfl) (by kernel_rfl) (fun _ _ _ h => h) hH (Or.inl ⟨by rfl, ?_⟩) ?_
            rotate_left
            · intro wq hq
              go_simp
              try rfl
            try simp only [Act.put, List.setIfInBounds_toArray, List.set_cons_zero, List.set_cons_succ]
            refine tkH (v := ?_) (i := 22) rfl (by kernel_rfl) (by kernel_rfl) (by kernel_rfl) (fun _ _ _ h => h) hH (Or.inl ⟨by rfl, ?_⟩) ?_
            rotate_left
            · intro wq hq
              go_simp
              try rfl
            try simp only [Act.put, List.setIfInBounds_toArray, List.set_cons_zero, List.set_cons_succ]
            refine wpAnyH_done (by kernel_rfl) ?_ _
            try simp only [Act.put, List.getElem_toArray, List.getElem_cons_zero, List.getElem_cons_succ, List.setIfInBounds_toArray, List.set_cons_zero, List.set_cons_succ]
            have oS8 := oO8.setb i (Sx.tell S T U 0 i)
            rw [fil_set _ _ _ hlt] at oS8
            have f9 := oO8.frozen i
            have c9 := oO8.cellb (i := i) (by rw [fil_length]; exact hlt)
            have hb8 := (hb1.trans (hH.mono (Nat.le_of_lt HGI.out))).setCell (p := ⟨g5, i, none⟩) (Nat.le_refl _) (.int .u8 (Sx.tell S T U 0 i : Nat))
            clear f1 f2 f3 oO1 hb1 hx rX1 hH
            go_wp2_with fail
            clear f9 c9
            go_roundw
            case rel => exact ⟨i + 1, by omega, by go_num, oS8, hb8⟩
            case measure => first | (simp [intOf]; done) | (simp [intOf]; omega)
          · obtain rfl : i = 32 := by omega
            have i0 : decide ((32 : Int) < 32) = false := by decide
            have rO := oO.rg
            have oR7 := oR6.belowB hb (by omega)
            have hl := fil_length 32 (Sx.tell S T U 0) 32
            have he : fil 32 (Sx.tell S T U 0) 32 = Sx.at3 S T U 0 := by rw [fil_all]; rfl
            rw [he] at rO hl
            go_wp2_with (first | (refine ld t23 rfl rfl rfl rO hl ?_) | (refine sto t23 rfl rfl rfl rfl oR7 (zs_length _) hl ?_))
            refine res2 t23 rfl rfl rfl (oR7.row _) hl rfl ⟨JIs.yes hok, ?_⟩
            rw [HG.out]
            exact below_row (b6.trans (hb.mono (by omega))) (Nat.le_refl _) _
      · rw [hd] at hok
        go_loopw [42] (fun i wr => ∃ i' : Nat, i' < 32 ∧ i = .int .i64 i' ∧ Own wr g5 23 (vs (zs 32)) ∧ Below g5 w6 wr) (fun i _ => 32 - (intOf i).toNat)
        case atStart => exact ⟨0, by omega, rfl, o5, Below.refl _ _⟩
        case round =>
          clear o5
          obtain ⟨i, hi, rfl, oO, hb⟩ := hrel
          generalize wr = wi at *
          · have hlt := hi
            have i0 : (i : Int) < 32 := by omega
            have oR7 := (oR6.belowB hb (by omega)).drew
            have b7 := (b6.trans (hb.mono (by omega))).drew
            have oO1 := oO.drew
            have hb1 := hb.drew
            have rX1 := (rgB rX hb (by omega)).drew
            obtain ⟨f1, f2, f3⟩ := flat3 lS lT lU (rgB r6 hb (by omega)).drew hlt
            have j1 : (Gf.nth S (1 + i)) < 256 := HB.out.1.at_ _
            have j2 : (Gf.nth T (1 + i)) < 256 := HB.out.2.1.at_ _
            have j3 : (Gf.nth U (1 + i)) < 256 := HB.out.2.2.at_ _
            have htl : Gf.atk [Gf.nth S 0, Gf.nth T 0, Gf.nth U 0] [Gf.nth S (1 + i), Gf.nth T (1 + i), Gf.nth U (1 + i)] 0 3 = Sx.tell S T U 0 i := rfl
            have hgi : g5 < wi.heap.size := oO.lt
            have HGI : Hid (g5 < wi.drew.heap.size) := Lib.hid hgi
            clear oO hb hgi
            generalize Gf.nth S (1 + i) = y1 at *
            generalize Gf.nth T (1 + i) = y2 at *
            generalize Gf.nth U (1 + i) = y3 at *
            have HT := Lib.hid htl
            clear htl
            go_wp2_with fail
            refine wp_region_held_drew (S := fun w' => Below wi.drew.heap.size wi.drew w') (by kernel_rfl) (Below.refl _ _) (fun hH => ?_)
            generalize wi.drew = wj at *
            refine tkH (v := ?_) (i := 0) rfl (by kernel_rfl) (by kernel_rfl) (by kernel_rfl) (fun _ _ _ h => h) hH (Or.inl ⟨by rfl, ?_⟩) ?_
            rotate_left
            · intro wq hq
              go_simp
              try rfl
            try simp only [Act.put, List.setIfInBounds_toArray, List.set_cons_zero, List.set_cons_succ]
            refine tkH (v := ?_) (i := 1) rfl (by kernel_rfl) (by kernel_rfl) (by kernel_rfl) (fun _ _ _ h => h) hH (Or.inl ⟨by rfl, ?_⟩) ?_
            rotate_left
            · intro wq hq
              go_simp
              try rfl
            try simp only [Act.put, List.setIfInBounds_toArray, List.set_cons_zero, List.set_cons_succ]
            refine tkH (v := ?_) (i := 2) rfl (by kernel_rfl) (by kernel_rfl) (by kernel_rfl) (fun _ _ _ h => h) hH (Or.inl ⟨by rfl, ?_⟩) ?_
            rotate_left
            · intro wq hq
              go_simp
              try rfl
            try simp only [Act.put, List.setIfInBounds_toArray, List.set_cons_zero, List.set_cons_succ]
            refine tkH (v := ?_) (i := 3) rfl (by kernel_rfl) (by kernel_rfl) (by kernel_rfl) (fun _ _ _ h => h) hH (Or.inl ⟨by rfl, ?_⟩) ?_
            rotate_left
            · intro wq hq
              go_simp
              try rfl
            try simp only [Act.put, List.setIfInBounds_toArray, List.set_cons_zero, List.set_cons_succ]
            refine tkH (v := ?_) (i := 4) rfl (by kernel_rfl) (by kernel_rfl) (by kernel_rfl) (fun _ _ _ h => h) hH (Or.inl ⟨by rfl, ?_⟩) ?_
            rotate_left
            · intro wq hq
              go_simp
              try rfl
            try simp only [Act.put, List.setIfInBounds_toArray, List.set_cons_zero, List.set_cons_succ]
            refine tkH (v := ?_) (i := 5) rfl (by kernel_rfl) (by kernel_rfl) (by kernel_rfl) (fun _ _ _ h => h) hH (Or.inl ⟨by rfl, ?_⟩) ?_
            rotate_left
            · intro wq hq
              have c := cell_in f1 hq
              go_simp
              try rfl
            try simp only [Act.put, List.setIfInBounds_toArray, List.set_cons_zero, List.set_cons_succ]
            refine tkH (v := ?_) (i := 6) rfl (by kernel_rfl) (by kernel_rfl) (by kernel_rfl) (fun _ _ _ h => h) hH (Or.inl ⟨by rfl, ?_⟩) ?_
            rotate_left
            · intro wq hq
              go_simp
              try rfl
            try simp only [Act.put, List.setIfInBounds_toArray, List.set_cons_zero, List.set_cons_succ]
            refine tkH (v := ?_) (i := 7) rfl (by kernel_rfl) (by kernel_rfl) (by kernel_rfl) (fun _ _ _ h => h) hH (Or.inl ⟨by rfl, ?_⟩) ?_
            rotate_left
            · intro wq hq
              go_simp
              try rfl
            try simp only [Act.put, List.setIfInBounds_toArray, List.set_cons_zero, List.set_cons_succ]
            refine tkH (v := ?_) (i := 8) rfl (by kernel_rfl) (by kernel_rfl) (by kernel_rfl) (fun _ _ _ h => h) hH (Or.inl ⟨by rfl, ?_⟩) ?_
            rotate_left
            · intro wq hq
              go_simp
              try rfl
            try simp only [Act.put, List.setIfInBounds_toArray, List.set_cons_zero, List.set_cons_succ]
            refine tkH (v := ?_) (i := 9) rfl (by kernel_rfl) (by kernel_rfl) (by kernel_rfl) (fun _ _ _ h => h) hH (Or.inl ⟨by rfl, ?_⟩) ?_
            rotate_left
            · intro wq hq
              go_simp
              try rfl
            try simp only [Act.put, List.setIfInBounds_toArray, List.set_cons_zero, List.set_cons_succ]
            refine tkH (v := ?_) (i := 10) rfl (by kernel_rfl) (by kernel_rfl) (by kernel_rfl) (fun _ _ _ h => h) hH (Or.inl ⟨by rfl, ?_⟩) ?_
            rotate_left
            · intro wq hq
              have c := cell_in f2 hq
              go_simp
              try rfl
            try simp only [Act.put, List.setIfInBounds_toArray, List.set_cons_zero, List.set_cons_succ]
            refine tkH (v := ?_) (i := 11) rfl (by kernel_rfl) (by kernel_rfl) (by kernel_rfl) (fun _ _ _ h => h) hH (Or.inl ⟨by rfl, ?_⟩) ?_
            rotate_left
            · intro wq hq
              go_simp
              try rfl
            try simp only [Act.put, List.setIfInBounds_toArray, List.set_cons_zero, List.set_cons_succ]
            refine tkH (v := ?_) (i := 12) rfl (by kernel_rfl) (by kernel_rfl) (by kernel_rfl) (fun _ _ _ h => h) hH (Or.inl ⟨by rfl, ?_⟩) ?_
            rotate_left
            · intro wq hq
              go_simp
              try rfl
            try simp only [Act.put, List.setIfInBounds_toArray, List.set_cons_zero, List.set_cons_succ]
            refine tkH (v := ?_) (i := 13) rfl (by kernel_rfl) (by kernel_rfl) (by kernel_rfl) (fun _ _ _ h => h) hH (Or.inl ⟨by rfl, ?_⟩) ?_
            rotate_left
            · intro wq hq
              go_simp
              try rfl
            try simp only [Act.put, List.setIfInBounds_toArray, List.set_cons_zero, List.set_cons_succ]
            refine tkH (v := ?_) (i := 14) rfl (by kernel_rfl) (by kernel_rfl) (by kernel_rfl) (fun _ _ _ h => h) hH (Or.inl ⟨by rfl, ?_⟩) ?_
            rotate_left
            · intro wq hq
              go_simp
              try rfl
            try simp only [Act.put, List.setIfInBounds_toArray, List.set_cons_zero, List.set_cons_succ]
            refine tkH (v := ?_) (i := 15) rfl (by kernel_rfl) (by kernel_rfl) (by kernel_rfl) (fun _ _ _ h => h) hH (Or.inl ⟨by rfl, ?_⟩) ?_
            rotate_left
            · intro wq hq
              have c := cell_in f3 hq
              go_simp
              try rfl
            try simp only [Act.put, List.setIfInBounds_toArray, List.set_cons_zero, List.set_cons_succ]
            refine efH (i := 16) rfl (by kernel_rfl) (by rfl) (fun KK hKK => ?_)
            refine wp_of_exec (exec_b3 (x1 := y1) (y1 := y2) (z1 := y3) rfl rfl rfl rfl wj) ?_
            refine hKK.out _ _ ((Below.refl _ wj).alloc (Nat.le_refl _) _) (fun hH => ?_)
            clear hKK KK
            try simp only [Act.put, List.setIfInBounds_toArray, List.set_cons_zero, List.set_cons_succ]
            refine efH (i := 17) rfl (by kernel_rfl) (by rfl) (fun KK hKK => ?_)
            go_simp
            refine (at_any _ _ 3 3 3 3 [Gf.nth S 0, Gf.nth T 0, Gf.nth U 0] [y1, y2, y3] 0 _ (by omega) (by omega) (by omega) ((rX1.alloc (Obj.cells (vs [y1, y2, y3]) 5)).bs hXb) ((Own.new wj 5 (vs [y1, y2, y3])).rg.bs (Sx.three_bytes j1 j2 j3))).mono ?_
            rintro e w8 ⟨he, hx⟩
            have hH' := hH.trans (hx.mono hH.size)
            obtain rfl := at3_no hd he
            clear he
            have oO8 := (oO1.alloc (Obj.cells (vs [y1, y2, y3]) 5)).below hx
            go_wp2_with fail
            refine hKK.out _ _ hH' (fun hH => ?_)
            clear hKK KK hH'
            try simp only [Act.put, List.setIfInBounds_toArray, List.set_cons_zero, List.set_cons_succ]
            refine tkH (v := ?_) (i := 18) rfl (by kernel_rfl) (by kernel_rfl) (by kernel_rfl) (fun _ _ _ h => h) hH (Or.inl ⟨by rfl, ?_⟩) ?_
            rotate_left
            · intro wq hq
              go_simp
              try rfl
            try simp only [Act.put, List.setIfInBounds_toArray, List.set_cons_zero, List.set_cons_succ]
            refine tkH (v := ?_) (i := 19) rfl (by kernel_rfl) (by kernel_rfl) (by kernel_rfl) (fun _ _ _ h => h) hH (Or.inl ⟨by rfl, ?_⟩) ?_
            rotate_left
            · intro wq hq
              go_simp
              try rfl
            try simp only [Act.put, List.setIfInBounds_toArray, List.set_cons_zero, List.set_cons_succ]
            refine tkH (v := ?_) (i := 20) rfl (by kernel_rfl) (by kernel_rfl) (by kernel_rfl) (fun _ _ _ h => h) hH (Or.inl ⟨by rfl, ?_⟩) ?_
            rotate_left
            · intro wq hq
              go_simp
              try rfl
            try simp only [Act.put, List.setIfInBounds_toArray, List.set_cons_zero, List.set_cons_succ]
            refine tkH (v := ?_) (i := 21) rfl (by kernel_rfl) (by kernel_rfl) (by kernel_rfl) (fun _ _ _ h => h) hH (Or.inl ⟨by rfl, ?_⟩) ?_
            rotate_left
            · intro wq hq
              go_simp
              try rfl
            try simp only [Act.put, List.setIfInBounds_toArray, List.set_cons_zero, List.set_cons_succ]
            refine tkH (v := ?_) (i := 22) rfl (by kernel_rfl) (by kernel_rfl) (by kernel_rfl) (fun _ _ _ h => h) hH (Or.inl ⟨by rfl, ?_⟩) ?_
            rotate_left
            · intro wq hq
              go_simp
              try rfl
            try simp only [Act.put, List.setIfInBounds_toArray, List.set_cons_zero, List.set_cons_succ]
            refine wpAnyH_done (by kernel_rfl) ?_ _
            try simp only [Act.put, List.getElem_toArray, List.getElem_cons_zero, List.getElem_cons_succ, List.setIfInBounds_toArray, List.set_cons_zero, List.set_cons_succ]
            have oR8 := (oR7.alloc (Obj.cells (vs [y1, y2, y3]) 5)).below hx
            have b8 := b7.trans (hH.mono (by have := HGI.out; omega))
            clear f1 f2 f3 oO1 hb1 hx rX1 hH
            go_wp2_with (first | (refine bld23z rfl rfl ?_) | (refine sto t23 rfl rfl rfl rfl oR8 (zs_length _) (zs_length _) ?_))
            refine res2 t23 rfl rfl rfl (oR8.row _) (zs_length _) rfl ⟨JIs.no hok, ?_⟩
            rw [HG.out]
            exact below_row b8 (Nat.le_refl _) _
end Go.Proofs.Ytkilphanbookkaa
