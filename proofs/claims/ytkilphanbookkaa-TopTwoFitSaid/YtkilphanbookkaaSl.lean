/-
  THE WALK of what holds splitting and joining against an example.
-/
import Derived.Test.YtkilphanbookkaaJo
import Derived.Test.YtkilphanbookkaaAl
import Derived.Test.YtkilphanbookkaaSt
namespace Go.Proofs.Ytkilphanbookkaa
open Go.RowKit
set_option linter.unusedVariables false
set_option linter.unusedSimpArgs false
theorem sz1 (w : World) (o : Obj) : w.heap.size + 1 = (w.alloc o).heap.size := (Array.size_push ..).symm
theorem efH2 {P : Program} {l : List Oper} {Q : Exit → Act → World → Prop} {md : Region.Mode} {S : World → Prop} {i j : Nat} {oi oj : Oper} {fuel : Nat} {listed : Array Bool} {a : Act} {w : World} (hi : l[i]? = some oi) (hj : l[j]? = some oj) (hr : Region.ready md l.toArray listed = [i, j])
    (hwi : Region.wanted oi (yielded l.toArray a.tmps) = true) (hwj : Region.wanted oj (yielded l.toArray a.tmps) = true)
    (h1 : ∀ K : Act → World → Prop, Shut (∀ a w, S w → (S w → wpAnyH P md l.toArray Q S fuel (listed.setIfInBounds i true) a w) → K a w) → Oper.wp P oi a w K Q)
    (h2 : ∀ K : Act → World → Prop, Shut (∀ a w, S w → (S w → wpAnyH P md l.toArray Q S fuel (listed.setIfInBounds j true) a w) → K a w) → Oper.wp P oj a w K Q) : wpAnyH P md l.toArray Q S (fuel + 1) listed a w :=
  wpAnyH_ready hr (by simp) (AllReadyH.cons (by rw [List.getElem?_toArray]; exact hi) (fun K hK => by rw [if_pos hwi]; exact h1 K hK) (AllReadyH.cons (by rw [List.getElem?_toArray]; exact hj) (fun K hK => by rw [if_pos hwj]; exact h2 K hK) AllReadyH.nil))
theorem zs_bytes (n : Nat) : Gf.Bytes (zs n) := fun x hx => by have := List.eq_of_mem_replicate hx; omega
theorem jis_no {S T U : List Nat} {E : Ending} (h : Sx.ok3 (Gf.nth S 0) (Gf.nth T 0) (Gf.nth U 0) = false) (hj : JIs S T U E) : E = .returned (.tuple #[.agg (vs (zs 32)), .int .i64 1]) := by unfold JIs at hj; rw [if_neg (by rw [h]; simp)] at hj; exact hj
theorem jis_yes {S T U : List Nat} {E : Ending} (h : Sx.ok3 (Gf.nth S 0) (Gf.nth T 0) (Gf.nth U 0) = true) (hj : JIs S T U E) : E = .returned (.tuple #[.agg (vs (Sx.at3 S T U 0)), .int .i64 0]) := by unfold JIs at hj; rw [if_pos h] at hj; exact hj
theorem ldw {ty : TypeId} {n : Nat} (T : AggT ty n) {ops : Array Oper} {rest : List Oper} {o : Oper} {a : Act} {w : World} {Q : Exit → Act → World → Prop} {x : Operand} {b f : Nat} {l : List Nat}
    (hgd : Region.wanted o (yielded ops a.tmps) = true) (ho : o.op = .load ty x) (hx : a.eval x = .pointer (some ⟨b, f, none⟩)) (hg : Rg w b f l) (hl : l.length = n)
    (h : wpList Try.prog ops Q rest (a.put o.dst (.agg (vs l))) w) : wpList Try.prog ops Q (o :: rest) a w := by
  show (if Region.wanted o (yielded ops a.tmps) then o.wp Try.prog a w (wpList Try.prog ops Q rest) Q ∨ (o.asks Try.prog a w ∧ LetsOut Q) else wpList Try.prog ops Q rest (a.put o.dst undef) w)
  rw [if_pos hgd]
  refine .inl ?_
  unfold Oper.wp
  rw [exec_ld T ho hx hg hl]
  exact h
theorem bldw {ops : Array Oper} {rest : List Oper} {o : Oper} {a : Act} {w : World} {Q : Exit → Act → World → Prop} (hgd : Region.wanted o (yielded ops a.tmps) = true) (ho : o.op = .build 23 #[])
    (h : wpList Try.prog ops Q rest (a.put o.dst (.agg (vs (zs 32)))) w) : wpList Try.prog ops Q (o :: rest) a w := by
  show (if Region.wanted o (yielded ops a.tmps) then o.wp Try.prog a w (wpList Try.prog ops Q rest) Q ∨ (o.asks Try.prog a w ∧ LetsOut Q) else wpList Try.prog ops Q rest (a.put o.dst undef) w)
  rw [if_pos hgd]
  refine .inl ?_
  have hb : Try.prog.built 23 [] = some (vs (zs 32)) := by kernel_rfl
  have e : ((#[] : Array (Nat × Operand)).map fun (i, x) => (i, a.eval x)).toList = [] := by simp
  refine wp_build 23 _ ho (by rw [e, hb]; rfl) ?_
  rw [e, hb]
  exact h
theorem nthL_shrs (K M : List Nat) (n i : Nat) (h : i < n) : nthL (Sx.shrs K M n) i = Sx.shr K M (i + 1) := by unfold nthL; rw [Sx.shrs_get _ _ _ _ h]; rfl
theorem share_at {w : World} {A : Option Addr} {K M : List Nat} {a : Nat} (h : Ss w A a (Sx.shrs K M a)) (ha : 0 < a) : ∃ b o, A = some ⟨b, o, none⟩ ∧ ∀ q, q < a → Rg w b (o + q * 33) (Sx.shr K M (q + 1)) := by
  obtain ⟨b, o, rfl, hr⟩ := h.2.2 ha
  exact ⟨b, o, rfl, fun q hq => by
    have := rg_at (n := a) (shrs_33 K M a) hr (i := q) (by rw [Sx.shrs_length]; exact hq)
    rw [nthL_shrs _ _ _ _ hq] at this
    exact this⟩
theorem eqz (p q : Nat) (h : p = q) : (((p : Nat) : Int) == ((q : Nat) : Int)) = true := by simp [h]
theorem eqz' (p q : Nat) (h : p ≠ q) : (((p : Nat) : Int) == ((q : Nat) : Int)) = false := by rw [beq_eq_false_iff_ne]; omega
def k3 : List Nat := 1 :: 2 :: 3 :: zs 29
theorem k3_length : k3.length = 32 := by decide +kernel
theorem k3_bytes : Gf.Bytes k3 := fun x hx => by
  unfold k3 at hx
  rcases List.mem_cons.1 hx with rfl | hx
  · omega
  · rcases List.mem_cons.1 hx with rfl | hx
    · omega
    · rcases List.mem_cons.1 hx with rfl | hx
      · omega
      · have := List.eq_of_mem_replicate hx; omega
theorem built3 : Try.prog.built 23 [(0, .int .u8 1), (1, .int .u8 2), (2, .int .u8 3)] = some (vs k3) := by kernel_rfl
theorem bldk {ops : Array Oper} {rest : List Oper} {o : Oper} {a : Act} {w : World} {Q : Exit → Act → World → Prop} (hgd : Region.wanted o (yielded ops a.tmps) = true) (ho : o.op = .build 23 #[(0, .const (.int .u8 1)), (1, .const (.int .u8 2)), (2, .const (.int .u8 3))])
    (h : wpList Try.prog ops Q rest (a.put o.dst (.agg (vs k3))) w) : wpList Try.prog ops Q (o :: rest) a w := by
  show (if Region.wanted o (yielded ops a.tmps) then o.wp Try.prog a w (wpList Try.prog ops Q rest) Q ∨ (o.asks Try.prog a w ∧ LetsOut Q) else wpList Try.prog ops Q rest (a.put o.dst undef) w)
  rw [if_pos hgd]
  refine .inl ?_
  have e : (#[((0 : Nat), Operand.const (.int .u8 1)), (1, .const (.int .u8 2)), (2, .const (.int .u8 3))].map fun (i, x) => (i, a.eval x)).toList = [(0, Value.int .u8 1), (1, .int .u8 2), (2, .int .u8 3)] := by simp [Act.eval]
  refine wp_build 23 _ ho (by rw [e, built3]; rfl) ?_
  rw [e, built3]
  exact h
theorem z64_size : (bs (zs 64)).size = 64 := by rw [bs_size, zs_length]
set_option maxRecDepth 100000 in
set_option maxHeartbeats 8000000 in
theorem splits_any (w : World) : Calls Try.prog 6 #[] w fun e w' => e = .returned (.bool true) ∧ Below w.heap.size w w' := by
  have hmk : ∀ w, (Instr.makeSlice 29 (.int .i64 64) (.int .i64 64)).run Try.prog w = .ok (.slice (some ⟨w.heap.size, 0, none⟩) 64 64) (w.alloc (.cells (vs (zs 64)) 5)) := fun w => mk38 64 (by omega) w
  have hcv := conv_bs (w.alloc (.cells (vs (zs 64)) 5)) w.heap.size 0 (zs 64) 64 64 (zs_length _) (Own.new _ _ _).rg
  have hs := fun w => ssplit_ok k3 (bs (zs 64)) 5 k3_bytes k3_length z64_size (by omega) (by omega) w
  rw [toN_bs (zs_bytes 64)] at hs
  have bW := (Below.refl w.heap.size w).alloc (Nat.le_refl _) (Obj.cells (vs (zs 64)) 5)
  have lz := k3_length
  have bz := k3_bytes
  have hZ : Sx.at3 (Sx.shr k3 (zs 64) 5) (Sx.shr k3 (zs 64) 1) (Sx.shr k3 (zs 64) 3) 0 = k3 := Sx.any_three k3_bytes (zs_bytes 64) k3_length (by omega) (by omega) (by omega) (by omega) (by omega) (by omega)
  have hok : Sx.ok3 (Gf.nth (Sx.shr k3 (zs 64) 5) 0) (Gf.nth (Sx.shr k3 (zs 64) 1) 0) (Gf.nth (Sx.shr k3 (zs 64) 3) 0) = true := by
    rw [Sx.shr_head, Sx.shr_head, Sx.shr_head, Sx.ok3_iff]; omega
  obtain ⟨Z, hZe⟩ : ∃ Z, Z = k3 := ⟨_, rfl⟩
  have hj : ∀ A w, Ss w A 3 [Sx.shr k3 (zs 64) 5, Sx.shr k3 (zs 64) 1, Sx.shr k3 (zs 64) 3] → Calls Try.prog 9 #[.slice A 3 3] w fun e w' => e = .returned (.tuple #[.agg (vs Z), .int .i64 0]) ∧ Below w.heap.size w w' := fun A w h => (sjoin3 A 3 _ _ _ w h).mono fun e w' hh => ⟨by rw [jis_yes hok hh.1, hZ, hZe], hh.2⟩
  have HJ := Lib.hid hj
  have l1 := Sx.shr_length k3 (zs 64) 5
  have l2 := Sx.shr_length k3 (zs 64) 1
  have l3 := Sx.shr_length k3 (zs 64) 3
  have b1 := Sx.shr_bytes k3_bytes (zs_bytes 64) (show 5 < 256 by omega)
  have b2 := Sx.shr_bytes k3_bytes (zs_bytes 64) (show 1 < 256 by omega)
  have b3 := Sx.shr_bytes k3_bytes (zs_bytes 64) (show 3 < 256 by omega)
  have HB := Lib.hid (And.intro b1 (And.intro b2 b3))
  rw [← hZe] at lz bz
  have HZE := Lib.hid hZe
  clear hj hZe hZ hok b1 b2 b3
  go_enter Try.func6, Try.ntmps6
  go_wp2_with (refine bldk rfl rfl ?_)
  refine (hs _).mono ?_
  rintro e w1 ⟨⟨A, c, rfl, s1, hc⟩, hb⟩
  replace bW := bW.trans (hb.mono bW.size)
  obtain ⟨b, o, rfl, hsh⟩ := share_at s1 (by omega)
  have rS : Rg w1 b (o + 132) (Sx.shr k3 (zs 64) 5) := hsh 4 (by omega)
  have rT : Rg w1 b o (Sx.shr k3 (zs 64) 1) := hsh 0 (by omega)
  have rU : Rg w1 b (o + 66) (Sx.shr k3 (zs 64) 3) := hsh 2 (by omega)
  clear hs hmk hcv hb s1 hsh
  generalize Sx.shr k3 (zs 64) 5 = S at *
  generalize Sx.shr k3 (zs 64) 1 = T at *
  generalize Sx.shr k3 (zs 64) 3 = U at *
  go_wp2_with fail
  replace rS := rS.drew
  replace rT := rT.drew
  replace rU := rU.drew
  replace bW := bW.drew
  refine wp_region_held_drew (S := fun w' => Below w1.drew.heap.size w1.drew w') (by kernel_rfl) (Below.refl _ _) (fun hH => ?_)
  generalize w1.drew = x0 at *
  refine tkH (v := ?_) (i := 0) rfl (by kernel_rfl) (by kernel_rfl) (by kernel_rfl) (fun _ _ _ h => h) hH (Or.inl ⟨by rfl, ?_⟩) ?_
  rotate_left
  · intro wq hq
    go_simp
    try rfl
  try simp only [Act.put, List.setIfInBounds_toArray, List.set_cons_zero, List.set_cons_succ]
  refine tkH (v := ?_) (i := 1) rfl (by kernel_rfl) (by kernel_rfl) (by kernel_rfl) (fun _ _ _ h => h) hH (Or.inl ⟨by rfl, ?_⟩) ?_
  rotate_left
  · intro wq hq
    go_simp
    try rfl
  try simp only [Act.put, List.setIfInBounds_toArray, List.set_cons_zero, List.set_cons_succ]
  refine tkH (i := 2) rfl (by kernel_rfl) (by kernel_rfl) (by kernel_rfl) (fun _ _ _ h => h) hH (yld t34 (by rfl) rfl rfl S rS l1) ?_
  try simp only [Act.put, List.setIfInBounds_toArray, List.set_cons_zero, List.set_cons_succ]
  refine tkH (v := ?_) (i := 3) rfl (by kernel_rfl) (by kernel_rfl) (by kernel_rfl) (fun _ _ _ h => h) hH (Or.inl ⟨by rfl, ?_⟩) ?_
  rotate_left
  · intro wq hq
    go_simp
    try rfl
  try simp only [Act.put, List.setIfInBounds_toArray, List.set_cons_zero, List.set_cons_succ]
  refine tkH (v := ?_) (i := 4) rfl (by kernel_rfl) (by kernel_rfl) (by kernel_rfl) (fun _ _ _ h => h) hH (Or.inl ⟨by rfl, ?_⟩) ?_
  rotate_left
  · intro wq hq
    go_simp
    try rfl
  try simp only [Act.put, List.setIfInBounds_toArray, List.set_cons_zero, List.set_cons_succ]
  refine tkH (i := 5) rfl (by kernel_rfl) (by kernel_rfl) (by kernel_rfl) (fun _ _ _ h => h) hH (yld t34 (by rfl) rfl rfl T rT l2) ?_
  try simp only [Act.put, List.setIfInBounds_toArray, List.set_cons_zero, List.set_cons_succ]
  refine tkH (v := ?_) (i := 6) rfl (by kernel_rfl) (by kernel_rfl) (by kernel_rfl) (fun _ _ _ h => h) hH (Or.inl ⟨by rfl, ?_⟩) ?_
  rotate_left
  · intro wq hq
    go_simp
    try rfl
  try simp only [Act.put, List.setIfInBounds_toArray, List.set_cons_zero, List.set_cons_succ]
  refine tkH (v := ?_) (i := 7) rfl (by kernel_rfl) (by kernel_rfl) (by kernel_rfl) (fun _ _ _ h => h) hH (Or.inl ⟨by rfl, ?_⟩) ?_
  rotate_left
  · intro wq hq
    go_simp
    try rfl
  try simp only [Act.put, List.setIfInBounds_toArray, List.set_cons_zero, List.set_cons_succ]
  refine tkH (i := 8) rfl (by kernel_rfl) (by kernel_rfl) (by kernel_rfl) (fun _ _ _ h => h) hH (yld t34 (by rfl) rfl rfl U rU l3) ?_
  try simp only [Act.put, List.setIfInBounds_toArray, List.set_cons_zero, List.set_cons_succ]
  refine efH2 (i := 9) (j := 14) rfl rfl (by kernel_rfl) (by rfl) (by rfl) (fun KK hKK => ?_) (fun KK hKK => ?_)
  · refine wp_of_exec (exec_lit3 l1 l2 l3 rfl rfl rfl rfl x0) ?_
    refine hKK.out _ _ (hH.alloc hH.size _) (fun hH => ?_)
    clear hKK KK
    try simp only [Act.put, List.setIfInBounds_toArray, List.set_cons_zero, List.set_cons_succ]
    have oL := Own.new x0 31 (vs [S, T, U].flatten)
    generalize x0.alloc (Obj.cells (vs [S, T, U].flatten) 31) = x1 at *
    refine efH2 (i := 10) (j := 14) rfl rfl (by kernel_rfl) (by rfl) (by rfl) (fun KK hKK => ?_) (fun KK hKK => ?_)
    · go_simp
      refine (HJ.out _ _ (ss_lit l1 l2 l3 HB.out.1 HB.out.2.1 HB.out.2.2 oL)).mono ?_
      rintro e x2 ⟨rfl, hx⟩
      have hH' := hH.trans (hx.mono hH.size)
      go_wp2_with fail
      refine hKK.out _ _ hH' (fun hH => ?_)
      clear hKK KK hH' hx oL
      try simp only [Act.put, List.setIfInBounds_toArray, List.set_cons_zero, List.set_cons_succ]
      refine tkH (v := ?_) (i := 11) rfl (by kernel_rfl) (by kernel_rfl) (by kernel_rfl) (fun _ _ _ h => h) hH (Or.inl ⟨by rfl, ?_⟩) ?_
      rotate_left
      · intro wq hq
        go_simp
        try rfl
      try simp only [Act.put, List.setIfInBounds_toArray, List.set_cons_zero, List.set_cons_succ]
      refine tkH (v := ?_) (i := 12) rfl (by kernel_rfl) (by kernel_rfl) (by kernel_rfl) (fun _ _ _ h => h) hH (Or.inl ⟨by rfl, ?_⟩) ?_
      rotate_left
      · intro wq hq
        go_simp
        try rfl
      try simp only [Act.put, List.setIfInBounds_toArray, List.set_cons_zero, List.set_cons_succ]
      refine tkH (v := ?_) (i := 13) rfl (by kernel_rfl) (by kernel_rfl) (by kernel_rfl) (fun _ _ _ h => h) hH (Or.inl ⟨by rfl, ?_⟩) ?_
      rotate_left
      · intro wq hq
        go_simp
        try rfl
      try simp only [Act.put, List.setIfInBounds_toArray, List.set_cons_zero, List.set_cons_succ]
      refine efH (i := 14) rfl (by kernel_rfl) (by rfl) (fun KK hKK => ?_)
      refine wp_of_exec (exec_new z23 rfl x2) ?_
      have hle := hH.size
      refine hKK.out _ _ (hH.alloc hH.size _) (fun hH => ?_)
      clear hKK KK
      try simp only [Act.put, List.setIfInBounds_toArray, List.set_cons_zero, List.set_cons_succ]
      have oN := Own.new x2 23 (vs (zs 32))
      generalize x2.alloc (Obj.cells (vs (zs 32)) 23) = x3 at *
      refine efH (i := 15) rfl (by kernel_rfl) (by rfl) (fun KK hKK => ?_)
      refine wp_store_row 23 _ _ rfl x2.heap.size (vs Z) rfl rfl 23 (vs (zs 32)) oN (by rw [t23.siz, vs_size, lz]) (by rw [vs_size, vs_size, zs_length, lz]) (vs_one _) ?_
      refine hKK.out _ _ (below_row hH hle _) (fun hH => ?_)
      clear hKK KK hle
      replace oN := oN.row (vs Z)
      generalize x3.setRow x2.heap.size (vs Z) = xf at *
      try simp only [Act.put, List.setIfInBounds_toArray, List.set_cons_zero, List.set_cons_succ]
      refine tkH (v := ?_) (i := 16) rfl (by kernel_rfl) (by kernel_rfl) (by kernel_rfl) (fun _ _ _ h => h) hH (Or.inl ⟨by rfl, ?_⟩) ?_
      rotate_left
      · intro wq hq
        go_simp
        try rfl
      try simp only [Act.put, List.setIfInBounds_toArray, List.set_cons_zero, List.set_cons_succ]
      refine wpAnyH_done (by kernel_rfl) ?_ _
      try simp only [Act.put, List.getElem_toArray, List.getElem_cons_zero, List.getElem_cons_succ, List.setIfInBounds_toArray, List.set_cons_zero, List.set_cons_succ]
      have rN := oN.rg
      replace bW := bW.trans (hH.mono bW.size)
      have hZ2 := HZE.out
      clear hH rS rT rU oN
      go_wp2_with (first | (refine ldw t23 rfl rfl rfl rN lz ?_) | (refine bldk rfl rfl ?_; rw [← hZ2]) | (refine cmpw cmp23 false Z Z rfl rfl rfl rfl lz lz bz bz ?_))
      go_ret
      exact ⟨rfl, bW⟩
    · refine wp_of_exec (exec_new z23 rfl x1) ?_
      have hle := hH.size
      refine hKK.out _ _ (hH.alloc hH.size _) (fun hH => ?_)
      clear hKK KK
      try simp only [Act.put, List.setIfInBounds_toArray, List.set_cons_zero, List.set_cons_succ]
      have oN := Own.new x1 23 (vs (zs 32))
      replace oL := oL.alloc (Obj.cells (vs (zs 32)) 23)
      generalize x1.alloc (Obj.cells (vs (zs 32)) 23) = x2 at *
      refine efH (i := 10) rfl (by kernel_rfl) (by rfl) (fun KK hKK => ?_)
      go_simp
      refine (HJ.out _ _ (ss_lit l1 l2 l3 HB.out.1 HB.out.2.1 HB.out.2.2 oL)).mono ?_
      rintro e x3 ⟨rfl, hx⟩
      have hH' := hH.trans (hx.mono hH.size)
      go_wp2_with fail
      refine hKK.out _ _ hH' (fun hH => ?_)
      replace oN := oN.below hx
      clear hKK KK hH' hx oL
      try simp only [Act.put, List.setIfInBounds_toArray, List.set_cons_zero, List.set_cons_succ]
      refine tkH (v := ?_) (i := 11) rfl (by kernel_rfl) (by kernel_rfl) (by kernel_rfl) (fun _ _ _ h => h) hH (Or.inl ⟨by rfl, ?_⟩) ?_
      rotate_left
      · intro wq hq
        go_simp
        try rfl
      try simp only [Act.put, List.setIfInBounds_toArray, List.set_cons_zero, List.set_cons_succ]
      refine tkH (v := ?_) (i := 12) rfl (by kernel_rfl) (by kernel_rfl) (by kernel_rfl) (fun _ _ _ h => h) hH (Or.inl ⟨by rfl, ?_⟩) ?_
      rotate_left
      · intro wq hq
        go_simp
        try rfl
      try simp only [Act.put, List.setIfInBounds_toArray, List.set_cons_zero, List.set_cons_succ]
      refine tkH (v := ?_) (i := 13) rfl (by kernel_rfl) (by kernel_rfl) (by kernel_rfl) (fun _ _ _ h => h) hH (Or.inl ⟨by rfl, ?_⟩) ?_
      rotate_left
      · intro wq hq
        go_simp
        try rfl
      try simp only [Act.put, List.setIfInBounds_toArray, List.set_cons_zero, List.set_cons_succ]
      refine efH (i := 15) rfl (by kernel_rfl) (by rfl) (fun KK hKK => ?_)
      refine wp_store_row 23 _ _ rfl x1.heap.size (vs Z) rfl rfl 23 (vs (zs 32)) oN (by rw [t23.siz, vs_size, lz]) (by rw [vs_size, vs_size, zs_length, lz]) (vs_one _) ?_
      refine hKK.out _ _ (below_row hH hle _) (fun hH => ?_)
      clear hKK KK hle
      replace oN := oN.row (vs Z)
      generalize x3.setRow x1.heap.size (vs Z) = xf at *
      try simp only [Act.put, List.setIfInBounds_toArray, List.set_cons_zero, List.set_cons_succ]
      refine tkH (v := ?_) (i := 16) rfl (by kernel_rfl) (by kernel_rfl) (by kernel_rfl) (fun _ _ _ h => h) hH (Or.inl ⟨by rfl, ?_⟩) ?_
      rotate_left
      · intro wq hq
        go_simp
        try rfl
      try simp only [Act.put, List.setIfInBounds_toArray, List.set_cons_zero, List.set_cons_succ]
      refine wpAnyH_done (by kernel_rfl) ?_ _
      try simp only [Act.put, List.getElem_toArray, List.getElem_cons_zero, List.getElem_cons_succ, List.setIfInBounds_toArray, List.set_cons_zero, List.set_cons_succ]
      have rN := oN.rg
      replace bW := bW.trans (hH.mono bW.size)
      have hZ2 := HZE.out
      clear hH rS rT rU oN
      go_wp2_with (first | (refine ldw t23 rfl rfl rfl rN lz ?_) | (refine bldk rfl rfl ?_; rw [← hZ2]) | (refine cmpw cmp23 false Z Z rfl rfl rfl rfl lz lz bz bz ?_))
      go_ret
      exact ⟨rfl, bW⟩
  · refine wp_of_exec (exec_new z23 rfl x0) ?_
    have hle := hH.size
    refine hKK.out _ _ (hH.alloc hH.size _) (fun hH => ?_)
    clear hKK KK
    try simp only [Act.put, List.setIfInBounds_toArray, List.set_cons_zero, List.set_cons_succ]
    have oN := Own.new x0 23 (vs (zs 32))
    generalize x0.alloc (Obj.cells (vs (zs 32)) 23) = x1 at *
    refine efH (i := 9) rfl (by kernel_rfl) (by rfl) (fun KK hKK => ?_)
    refine wp_of_exec (exec_lit3 l1 l2 l3 rfl rfl rfl rfl x1) ?_
    refine hKK.out _ _ (hH.alloc hH.size _) (fun hH => ?_)
    clear hKK KK
    try simp only [Act.put, List.setIfInBounds_toArray, List.set_cons_zero, List.set_cons_succ]
    have oL := Own.new x1 31 (vs [S, T, U].flatten)
    replace oN := oN.alloc (Obj.cells (vs [S, T, U].flatten) 31)
    generalize x1.alloc (Obj.cells (vs [S, T, U].flatten) 31) = x2 at *
    refine efH (i := 10) rfl (by kernel_rfl) (by rfl) (fun KK hKK => ?_)
    go_simp
    refine (HJ.out _ _ (ss_lit l1 l2 l3 HB.out.1 HB.out.2.1 HB.out.2.2 oL)).mono ?_
    rintro e x3 ⟨rfl, hx⟩
    have hH' := hH.trans (hx.mono hH.size)
    go_wp2_with fail
    refine hKK.out _ _ hH' (fun hH => ?_)
    replace oN := oN.below hx
    clear hKK KK hH' hx oL
    try simp only [Act.put, List.setIfInBounds_toArray, List.set_cons_zero, List.set_cons_succ]
    refine tkH (v := ?_) (i := 11) rfl (by kernel_rfl) (by kernel_rfl) (by kernel_rfl) (fun _ _ _ h => h) hH (Or.inl ⟨by rfl, ?_⟩) ?_
    rotate_left
    · intro wq hq
      go_simp
      try rfl
    try simp only [Act.put, List.setIfInBounds_toArray, List.set_cons_zero, List.set_cons_succ]
    refine tkH (v := ?_) (i := 12) rfl (by kernel_rfl) (by kernel_rfl) (by kernel_rfl) (fun _ _ _ h => h) hH (Or.inl ⟨by rfl, ?_⟩) ?_
    rotate_left
    · intro wq hq
      go_simp
      try rfl
    try simp only [Act.put, List.setIfInBounds_toArray, List.set_cons_zero, List.set_cons_succ]
    refine tkH (v := ?_) (i := 13) rfl (by kernel_rfl) (by kernel_rfl) (by kernel_rfl) (fun _ _ _ h => h) hH (Or.inl ⟨by rfl, ?_⟩) ?_
    rotate_left
    · intro wq hq
      go_simp
      try rfl
    try simp only [Act.put, List.setIfInBounds_toArray, List.set_cons_zero, List.set_cons_succ]
    refine efH (i := 15) rfl (by kernel_rfl) (by rfl) (fun KK hKK => ?_)
    refine wp_store_row 23 _ _ rfl x0.heap.size (vs Z) rfl rfl 23 (vs (zs 32)) oN (by rw [t23.siz, vs_size, lz]) (by rw [vs_size, vs_size, zs_length, lz]) (vs_one _) ?_
    refine hKK.out _ _ (below_row hH hle _) (fun hH => ?_)
    clear hKK KK hle
    replace oN := oN.row (vs Z)
    generalize x3.setRow x0.heap.size (vs Z) = xf at *
    try simp only [Act.put, List.setIfInBounds_toArray, List.set_cons_zero, List.set_cons_succ]
    refine tkH (v := ?_) (i := 16) rfl (by kernel_rfl) (by kernel_rfl) (by kernel_rfl) (fun _ _ _ h => h) hH (Or.inl ⟨by rfl, ?_⟩) ?_
    rotate_left
    · intro wq hq
      go_simp
      try rfl
    try simp only [Act.put, List.setIfInBounds_toArray, List.set_cons_zero, List.set_cons_succ]
    refine wpAnyH_done (by kernel_rfl) ?_ _
    try simp only [Act.put, List.getElem_toArray, List.getElem_cons_zero, List.getElem_cons_succ, List.setIfInBounds_toArray, List.set_cons_zero, List.set_cons_succ]
    have rN := oN.rg
    replace bW := bW.trans (hH.mono bW.size)
    have hZ2 := HZE.out
    clear hH rS rT rU oN
    go_wp2_with (first | (refine ldw t23 rfl rfl rfl rN lz ?_) | (refine bldk rfl rfl ?_; rw [← hZ2]) | (refine cmpw cmp23 false Z Z rfl rfl rfl rfl lz lz bz bz ?_))
    go_ret
    exact ⟨rfl, bW⟩
end Go.Proofs.Ytkilphanbookkaa
