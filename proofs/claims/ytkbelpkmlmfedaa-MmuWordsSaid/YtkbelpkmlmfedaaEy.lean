/-
  THE WALKS of the pages that a program begins with: the code's and the document's.
-/
import Derived.Test.YtkbelpkmlmfedaaEp
namespace Go.Proofs.Ytkbelpkmlmfedaa
set_option linter.unusedVariables false
set_option maxRecDepth 100000
set_option linter.unusedSimpArgs false
open Go.RowKit
namespace Xe
open _root_.Go.Proofs.Ytkbelpkmlmfedaa.Nm
theorem Kx.belowB {w wr w1 : World} {x : Xv} (o : Kx w wr x) (hx : Below (w.heap.size + 1) wr w1) : Kx w w1 x := by
  have c : ∀ i, w1.cell? ⟨w.heap.size, i, none⟩ = wr.cell? ⟨w.heap.size, i, none⟩ := fun i => hx.cell (by simp)
  exact ⟨⟨(c 0).trans o.k.c0, (c 1).trans o.k.c1, (c 2).trans o.k.c2, (c 3).trans o.k.c3⟩, o.b.trans (hx.mono (by omega))⟩
theorem Kx.lt {w wr : World} {x : Xv} (o : Kx w wr x) : w.heap.size + 1 ≤ wr.heap.size := at_lt o.k
theorem RP.base {w : World} {B B' : Nat} {A : Option Addr} {n cap : Nat} {l : List Pg} (h : RP w B A n cap l) (hB : B' ≤ B) : RP w B' A n cap l := by
  refine ⟨h.1, h.2.1, ?_⟩
  rcases h.2.2 with h1 | ⟨g, c, cur, h1, h2, h3⟩
  · exact .inl h1
  · exact .inr ⟨g, c, cur, h1, Nat.le_trans hB h2, h3⟩
/-- the pages, or none -/
def layL (x : Xv) (l : List Nat) : List Pg := if badN x.n x.d.size x.r x.e then [] else
  pp 0 (pad ⟨(Em.txt l).toArray⟩) false (pn (4 * x.n)) ++ pp (pn (4 * x.n)) (pad (x.d ++ zs x.r.toNat)) true (pn (x.d.size + x.r.toNat)) ++ [⟨15, zs 128, true⟩]
theorem layL_len {x : Xv} {l : List Nat} (h : ¬ badN x.n x.d.size x.r x.e) : (layL x l).length = pn (4 * x.n) + pn (x.d.size + x.r.toNat) + 1 := by
  rw [layL, if_neg h]; simp [pp_len]; omega
def LayIs (B : Nat) (x : Xv) (l : List Nat) (e : Ending) (w' : World) : Prop := ∃ A n c, e = .returned (.tuple #[.slice A n c, .int .i64 (chkN x : Nat)]) ∧ RP w' B A n c (layL x l)
set_option maxHeartbeats 4000000 in
theorem lay_any (x : Xv) (l : List Nat) (hx : x.Ok) (w : World) (hW : Ws w x.a x.n l) (hw : Em.Wd l) :
    Calls Try.prog 24 #[.agg x.cs] w fun e w' => LayIs w.heap.size x l e w' ∧ Below w.heap.size w w' := by
  have st0 := Kx.new w x
  obtain ⟨V, hV⟩ : ∃ V, V = w.alloc (Obj.cells x.cs 25) := ⟨_, rfl⟩
  have st := st0
  rw [← hV] at st
  have hc := fun wr => check_any x hx wr
  obtain ⟨k0, k1, k2, k3⟩ := st0.k
  obtain ⟨j0, j1, j2, j3⟩ := (st0.below (grow _ (Obj.cells #[] 40))).k
  have HV := Lib.hid hV
  clear hV st0
  by_cases hb : badN x.n x.d.size x.r x.e
  · have hl : layL x l = [] := if_pos hb
    unfold LayIs
    rw [hl]
    rw [chkN_bad hb] at hc ⊢
    obtain ⟨a, n, c, d, r, e⟩ := x
    dsimp only at *
    go_enter Try.func24, Try.ntmps24
    go_wp2_with fail
    change Calls _ _ _ (w.alloc (Obj.cells (Xv.cs _) 25)) _
    rw [← HV.out]
    refine (hc _).mono ?_
    rintro e w1 ⟨rfl, hx1⟩
    replace st := st.below hx1
    go_wp2_with fail
    go_ret2
    exact ⟨⟨none, 0, 0, rfl, RP.nil _ _⟩, st.b⟩
  · have hl := layL_len (l := l) hb
    have hl2 : layL x l = _ := if_neg hb
    unfold LayIs
    rw [hl2]
    clear hl hl2
    rw [chkN_ok hb] at hc ⊢
    obtain ⟨a, n, c, d, r, e⟩ := x
    dsimp only at *
    obtain ⟨h1, h2, h3, h4, h5, h6, h7⟩ : ¬ n < 1 ∧ ¬ 448 < n ∧ ¬ e % 4 ≠ 0 ∧ ¬ 4 * n ≤ e ∧ ¬ r < 0 ∧ ¬ 1792 < r ∧ ¬ 1792 < d.size := by
      unfold badN at hb; omega
    clear hb
    obtain ⟨m, rfl⟩ : ∃ m : Nat, r = (m : Int) := ⟨r.toNat, by omega⟩
    rw [Int.toNat_natCast]
    have ht := fun wr (o : Kx w wr ⟨a, n, c, d, (m : Int), e⟩) => text_any a n c l wr (hW.belowW o.b) hw (by omega)
    have z5 := txtz l
    rw [hW.1] at z5
    generalize hT : (⟨(Em.txt l).toArray⟩ : ByteArray) = T at *
    have hp1 := fun wr A n' c' L (hr : RP wr (w.heap.size + 1) A n' c' L) (h0 : n' ≤ 100) (o : Kx w wr ⟨a, n, c, d, (m : Int), e⟩) => code_pages (w.heap.size + 1) A n' c' L T false wr hr h0 (by omega) o.lt
    rw [z5] at hp1
    have zz := zs_size m
    have zd : (d ++ zs m).size = d.size + m := by rw [ByteArray.size_append, zz]
    have hp2 := fun wr A n' c' L (hr : RP wr (w.heap.size + 1) A n' c' L) (h0 : n' ≤ 100) (o : Kx w wr ⟨a, n, c, d, (m : Int), e⟩) => code_pages (w.heap.size + 1) A n' c' L (d ++ zs m) true wr hr h0 (by omega) o.lt
    rw [zd] at hp2
    have hz1 := fun wr => repeat_any m wr (by omega)
    have hz2 := fun wr => repeat_any 128 wr (by omega)
    have y2 : ¬ 9223372036854775807 < d.size + m := by omega
    have qa : pn (4 * n) ≤ 20 := by unfold pn; omega
    have qb : pn (d.size + m) ≤ 30 := by unfold pn; omega
    clear hW hw hT hx h3 h4
    generalize hPA : pn (4 * n) = PA at *
    generalize hPB : pn (d.size + m) = PB at *
    clear hPA hPB
    generalize zs m = Z at *
    generalize zs 128 = Z8 at *
    go_enter Try.func24, Try.ntmps24
    go_wp2_with fail
    change Calls _ _ _ (w.alloc (Obj.cells (Xv.cs _) 25)) _
    rw [← HV.out]
    clear HV k0 k1 k2 k3 j0 j1 j2 j3
    refine (hc _).mono ?_
    rintro e w1 ⟨rfl, hx1⟩
    replace st := st.below hx1
    clear hx1
    have st' := st
    obtain ⟨⟨k0, k1, k2, k3⟩, -⟩ := st'
    dsimp only at k0 k1 k2 k3
    go_wp2_with fail
    clear k0 k1 k2 k3
    refine (ht _ st).mono ?_
    rintro e w2 ⟨rfl, hx1⟩
    replace st := st.below hx1
    clear hx1
    go_wp2_with fail
    refine (hp1 _ none 0 0 [] (RP.nil _ _) (by omega) st).mono ?_
    rintro e w3 ⟨⟨A1, n1, c1, rfl, p1⟩, hx1⟩
    replace st := st.belowB hx1
    clear hx1
    rw [List.nil_append] at p1
    have l1 := p1.1
    rw [pp_len] at l1
    subst l1
    go_wp2_with fail
    replace p1 := p1.below (w' := w3.drew) (Below.refl _ _).drew
    refine wp_region_held_drew (S := fun w' => Kx w w' ⟨a, n, c, d, (m : Int), _⟩) (by kernel_rfl) st.drew (fun hHeld => ?_)
    clear st hc ht hp1
    generalize w3.drew = W2 at *
    refine wpAnyH_take (i := 0) (oi := { dst := some 16, op := Op.move (Operand.tmp 5), type := _, pos := _, after := _, guard := _ }) (v := ?_) rfl (by kernel_rfl) (by kernel_rfl) (by kernel_rfl) (fun _ _ _ h => h) (Or.inl ⟨by rfl, ?_⟩) hHeld ?_
    rotate_left
    · intro wq hSw
      go_simp
      rfl
    try simp only [Act.put, List.setIfInBounds_toArray, List.set_cons_zero, List.set_cons_succ]
    refine wpAnyH_take (i := 1) (oi := { dst := some 17, op := Op.fieldAddr 25 (Operand.tmp 1) 1, type := _, pos := _, after := _, guard := _ }) (v := ?_) rfl (by kernel_rfl) (by kernel_rfl) (by kernel_rfl) (fun _ _ _ h => h) (Or.inl ⟨by rfl, ?_⟩) hHeld ?_
    rotate_left
    · intro wq hSw
      go_simp
      rfl
    try simp only [Act.put, List.setIfInBounds_toArray, List.set_cons_zero, List.set_cons_succ]
    refine wpAnyH_take (i := 2) (oi := { dst := some 18, op := Op.load 9 (Operand.tmp 17), type := _, pos := _, after := _, guard := _ }) (v := ?_) rfl (by kernel_rfl) (by kernel_rfl) (by kernel_rfl) (fun _ _ _ h => h) (Or.inl ⟨by rfl, ?_⟩) hHeld ?_
    rotate_left
    · intro wq hSw
      obtain ⟨⟨k0, k1, k2, k3⟩, _⟩ := hSw
      go_simp
      rfl
    try simp only [Act.put, List.setIfInBounds_toArray, List.set_cons_zero, List.set_cons_succ]
    refine wpAnyH_take (i := 3) (oi := { dst := some 19, op := Op.fieldAddr 25 (Operand.tmp 1) 2, type := _, pos := _, after := _, guard := _ }) (v := ?_) rfl (by kernel_rfl) (by kernel_rfl) (by kernel_rfl) (fun _ _ _ h => h) (Or.inl ⟨by rfl, ?_⟩) hHeld ?_
    rotate_left
    · intro wq hSw
      go_simp
      rfl
    try simp only [Act.put, List.setIfInBounds_toArray, List.set_cons_zero, List.set_cons_succ]
    refine wpAnyH_take (i := 4) (oi := { dst := some 20, op := Op.load 3 (Operand.tmp 19), type := _, pos := _, after := _, guard := _ }) (v := ?_) rfl (by kernel_rfl) (by kernel_rfl) (by kernel_rfl) (fun _ _ _ h => h) (Or.inl ⟨by rfl, ?_⟩) hHeld ?_
    rotate_left
    · intro wq hSw
      obtain ⟨⟨k0, k1, k2, k3⟩, _⟩ := hSw
      go_simp
      rfl
    try simp only [Act.put, List.setIfInBounds_toArray, List.set_cons_zero, List.set_cons_succ]
    refine wpAnyH_ready (rs := [5]) (by kernel_rfl) (by simp) ?_
    refine AllReadyH.cons (o := { dst := some 21, op := Op.call { callee := Callee.value (Operand.func 52), args := #[Operand.const (Value.string { data := #[0] }), Operand.tmp 20], argTypes := #[9, 3] }, type := _, pos := _, after := _, guard := _ }) rfl (fun KK hKK => ?_) AllReadyH.nil
    have hKS := Lib.hid hKK
    clear hKK
    go_simp
    refine (hz1 _).mono ?_
    rintro e w5 ⟨rfl, hx⟩
    go_wp2_with fail
    try replace p1 := p1.below hx
    refine hKS.out.out _ _ (hHeld.below hx) (fun hHeld => ?_)
    clear hKS KK hx
    try simp only [Act.put, List.setIfInBounds_toArray, List.set_cons_zero, List.set_cons_succ]
    refine wpAnyH_take (i := 6) (oi := { dst := some 22, op := Op.binOp BinOp.add 9 (Operand.tmp 18) (Operand.tmp 21) 9, type := _, pos := _, after := _, guard := _ }) (v := ?_) rfl (by kernel_rfl) (by kernel_rfl) (by kernel_rfl) (fun _ _ _ h => h) (Or.inl ⟨by rfl, ?_⟩) hHeld ?_
    rotate_left
    · intro wq hSw
      go_simp
      rfl
    try simp only [Act.put, List.setIfInBounds_toArray, List.set_cons_zero, List.set_cons_succ]
    refine wpAnyH_ready (rs := [7]) (by kernel_rfl) (by simp) ?_
    refine AllReadyH.cons (o := { dst := some 23, op := Op.call { callee := Callee.value (Operand.func 51), args := #[Operand.tmp 16, Operand.tmp 22, Operand.const (Value.bool true)], argTypes := #[36, 9, 4] }, type := _, pos := _, after := _, guard := _ }) rfl (fun KK hKK => ?_) AllReadyH.nil
    have hKS := Lib.hid hKK
    clear hKK
    go_simp
    refine (hp2 _ _ _ _ _ p1 (by omega) hHeld).mono ?_
    rintro e w7 ⟨⟨A2, n2, c2, rfl, p2⟩, hx⟩
    go_wp2_with fail
    refine hKS.out.out _ _ (hHeld.belowB hx) (fun hHeld => ?_)
    clear hKS KK hx
    try simp only [Act.put, List.setIfInBounds_toArray, List.set_cons_zero, List.set_cons_succ]
    refine wpAnyH_take (i := 8) (oi := { dst := some 5, op := Op.assign (Operand.tmp 23), type := _, pos := _, after := _, guard := _ }) (v := ?_) rfl (by kernel_rfl) (by kernel_rfl) (by kernel_rfl) (fun _ _ _ h => h) (Or.inl ⟨by rfl, ?_⟩) hHeld ?_
    rotate_left
    · intro wq hSw
      go_simp
      rfl
    try simp only [Act.put, List.setIfInBounds_toArray, List.set_cons_zero, List.set_cons_succ]
    refine wpAnyH_done (by kernel_rfl) ?_ _
    go_wp2_with fail
    refine (hz2 _).mono ?_
    rintro e w9 ⟨rfl, hx⟩
    replace p2 := p2.below hx
    replace hHeld := hHeld.below hx
    clear hx
    have l2 := p2.1
    rw [List.length_append, pp_len, pp_len] at l2
    subst l2
    have HP := Lib.hid (p2.below (grow w9 (Obj.cells #[.int .i64 ((15 : Nat) : Int), .string Z8, .bool true] 40)))
    have nc := Lib.hid (new_cells w9 ⟨15, Z8, true⟩)
    have HB := Lib.hid (show w.heap.size + 1 ≤ (w9.alloc (Obj.cells #[.int .i64 ((15 : Nat) : Int), .string Z8, .bool true] 40)).heap.size from Nat.le_trans hHeld.lt (grow _ _).size)
    have HH := Lib.hid (hHeld.below (grow w9 (Obj.cells #[.int .i64 ((15 : Nat) : Int), .string Z8, .bool true] 40)))
    clear hz1 hz2 hp2 p2 hHeld zz zd z5
    obtain ⟨m1, m2, m3⟩ := nc.out
    go_wp2_with (at_builtin; refine app_page rfl (.tmp 25) (.tmp 28) rfl (w.heap.size + 1) A2 (PA + PB) c2 _ rfl HP.out w9.heap.size 1 ⟨15, Z8, true⟩ rfl m1 m2 m3 (by omega) HB.out _ rfl ?_; intro g cap' wz hr2 hb2)
    go_ret2
    exact ⟨⟨_, _, _, rfl, hr2.base (by omega)⟩, (HH.out.belowB hb2).b⟩
set_option maxHeartbeats 4000000 in
theorem rlay_any (x : Xv) (l : List Nat) (hx : x.Ok) (w : World) (hW : Ws w x.a x.n l) (hw : Em.Wd l) :
    Calls Try.prog 25 #[.agg x.cs] w fun e w' => LayIs w.heap.size x l e w' ∧ Below w.heap.size w w' := by
  have st0 := Kx.new w x
  obtain ⟨V, hV⟩ : ∃ V, V = w.alloc (Obj.cells x.cs 25) := ⟨_, rfl⟩
  have st := st0
  rw [← hV] at st
  have hc := fun wr => rcheck_any x hx wr
  obtain ⟨k0, k1, k2, k3⟩ := st0.k
  obtain ⟨j0, j1, j2, j3⟩ := (st0.below (grow _ (Obj.cells #[] 40))).k
  have HV := Lib.hid hV
  clear hV st0
  by_cases hb : badN x.n x.d.size x.r x.e
  · have hl : layL x l = [] := if_pos hb
    unfold LayIs
    rw [hl]
    rw [chkN_bad hb] at hc ⊢
    obtain ⟨a, n, c, d, r, e⟩ := x
    dsimp only at *
    go_enter Try.func25, Try.ntmps25
    go_wp2_with fail
    change Calls _ _ _ ((w.alloc (Obj.cells (Xv.cs _) 25)).alloc (Obj.cells #[] 40)) _
    rw [← HV.out]
    have ho := Own.new V 40 #[]
    replace st := st.below (grow V (Obj.cells #[] 40))
    have hsz : V.heap.size = w.heap.size + 1 := by rw [HV.out]; simp
    rw [hsz] at ho
    generalize V.alloc (Obj.cells #[] 40) = V2 at *
    refine (hc _).mono ?_
    rintro e w1 ⟨rfl, hx1⟩
    replace st := st.below hx1
    have ho' : Own w1 (w.heap.size + 1) 40 #[] := (hx1.block _ ho.lt).trans ho
    go_wp2_with fail
    go_ret2
    exact ⟨⟨_, 0, 0, rfl, RP.empty ho' (by omega)⟩, st.b⟩
  · have hl := layL_len (l := l) hb
    have hl2 : layL x l = _ := if_neg hb
    unfold LayIs
    rw [hl2]
    clear hl hl2
    rw [chkN_ok hb] at hc ⊢
    obtain ⟨a, n, c, d, r, e⟩ := x
    dsimp only at *
    obtain ⟨h1, h2, h3, h4, h5, h6, h7⟩ : ¬ n < 1 ∧ ¬ 448 < n ∧ ¬ e % 4 ≠ 0 ∧ ¬ 4 * n ≤ e ∧ ¬ r < 0 ∧ ¬ 1792 < r ∧ ¬ 1792 < d.size := by
      unfold badN at hb; omega
    clear hb
    obtain ⟨m, rfl⟩ : ∃ m : Nat, r = (m : Int) := ⟨r.toNat, by omega⟩
    rw [Int.toNat_natCast]
    have ht := fun wr (o : Kx w wr ⟨a, n, c, d, (m : Int), e⟩) => rtext_any ⟨a, n, c, d, (m : Int), e⟩ l wr (hW.belowW o.b) hw (by dsimp only; omega)
    have z5 := txtz l
    rw [hW.1] at z5
    generalize hT : (⟨(Em.txt l).toArray⟩ : ByteArray) = T at *
    have hp1 := fun wr A n' c' L (hr : RP wr (w.heap.size + 1) A n' c' L) (h0 : n' ≤ 100) (o : Kx w wr ⟨a, n, c, d, (m : Int), e⟩) => ref_pages (w.heap.size + 1) A n' c' 0 L T false wr hr h0 (by omega) (by omega) o.lt
    rw [z5] at hp1
    have zz := zs_size m
    have zd : (d ++ zs m).size = d.size + m := by rw [ByteArray.size_append, zz]
    have hp2 := fun wr A n' c' L (hr : RP wr (w.heap.size + 1) A n' c' L) (h0 : n' ≤ 100) (o : Kx w wr ⟨a, n, c, d, (m : Int), e⟩) => ref_pages (w.heap.size + 1) A n' c' n' L (d ++ zs m) true wr hr h0 h0 (by omega) o.lt
    rw [zd] at hp2
    have hz1 := fun wr => zeros_any m wr (by omega)
    have hz2 := fun wr => zeros_any 128 wr (by omega)
    have y2 : ¬ 9223372036854775807 < d.size + m := by omega
    have qa : pn (4 * n) ≤ 20 := by unfold pn; omega
    have qb : pn (d.size + m) ≤ 30 := by unfold pn; omega
    clear hW hw hT hx h3 h4
    generalize hPA : pn (4 * n) = PA at *
    generalize hPB : pn (d.size + m) = PB at *
    clear hPA hPB
    generalize zs m = Z at *
    generalize zs 128 = Z8 at *
    go_enter Try.func25, Try.ntmps25
    go_wp2_with fail
    change Calls _ _ _ ((w.alloc (Obj.cells (Xv.cs _) 25)).alloc (Obj.cells #[] 40)) _
    rw [← HV.out]
    have ho := Own.new V 40 #[]
    replace st := st.below (grow V (Obj.cells #[] 40))
    have hsz : V.heap.size = w.heap.size + 1 := by rw [HV.out]; simp
    rw [hsz] at ho
    have p0 := RP.empty ho (Nat.le_refl _)
    clear ho hsz
    clear HV k0 k1 k2 k3 j0 j1 j2 j3
    generalize V.alloc (Obj.cells #[] 40) = V2 at *
    refine (hc _).mono ?_
    rintro e w1 ⟨rfl, hx1⟩
    replace st := st.below hx1
    replace p0 := p0.below hx1
    clear hx1
    have st' := st
    obtain ⟨⟨k0, k1, k2, k3⟩, -⟩ := st'
    dsimp only at k0 k1 k2 k3
    go_wp2_with fail
    clear k0 k1 k2 k3
    refine (ht _ st).mono ?_
    rintro e w2 ⟨rfl, hx1⟩
    replace st := st.below hx1
    replace p0 := p0.below hx1
    clear hx1
    go_wp2_with fail
    refine (hp1 _ _ 0 0 [] p0 (by omega) st).mono ?_
    rintro e w3 ⟨⟨A1, n1, c1, rfl, p1⟩, hx1⟩
    replace st := st.belowB hx1
    clear hx1 p0
    rw [List.nil_append] at p1
    have l1 := p1.1
    rw [pp_len] at l1
    subst l1
    go_wp2_with fail
    replace p1 := p1.below (w' := w3.drew) (Below.refl _ _).drew
    refine wp_region_held_drew (S := fun w' => Kx w w' ⟨a, n, c, d, (m : Int), _⟩) (by kernel_rfl) st.drew (fun hHeld => ?_)
    clear st hc ht hp1
    generalize w3.drew = W2 at *
    refine wpAnyH_take (i := 0) (oi := { dst := some 14, op := Op.move (Operand.tmp 4), type := _, pos := _, after := _, guard := _ }) (v := ?_) rfl (by kernel_rfl) (by kernel_rfl) (by kernel_rfl) (fun _ _ _ h => h) (Or.inl ⟨by rfl, ?_⟩) hHeld ?_
    rotate_left
    · intro wq hSw
      go_simp
      rfl
    try simp only [Act.put, List.setIfInBounds_toArray, List.set_cons_zero, List.set_cons_succ]
    refine wpAnyH_take (i := 1) (oi := { dst := some 15, op := Op.move (Operand.tmp 4), type := _, pos := _, after := _, guard := _ }) (v := ?_) rfl (by kernel_rfl) (by kernel_rfl) (by kernel_rfl) (fun _ _ _ h => h) (Or.inl ⟨by rfl, ?_⟩) hHeld ?_
    rotate_left
    · intro wq hSw
      go_simp
      rfl
    try simp only [Act.put, List.setIfInBounds_toArray, List.set_cons_zero, List.set_cons_succ]
    refine wpAnyH_take (i := 2) (oi := { dst := some 16, op := Op.call { callee := Callee.builtin Builtin.len, args := #[Operand.tmp 15], argTypes := #[36] }, type := _, pos := _, after := _, guard := _ }) (v := ?_) rfl (by kernel_rfl) (by kernel_rfl) (by kernel_rfl) (fun _ _ _ h => h) (Or.inl ⟨by rfl, ?_⟩) hHeld ?_
    rotate_left
    · intro wq hSw
      go_simp
      rfl
    try simp only [Act.put, List.setIfInBounds_toArray, List.set_cons_zero, List.set_cons_succ]
    refine wpAnyH_take (i := 3) (oi := { dst := some 17, op := Op.fieldAddr 25 (Operand.tmp 1) 1, type := _, pos := _, after := _, guard := _ }) (v := ?_) rfl (by kernel_rfl) (by kernel_rfl) (by kernel_rfl) (fun _ _ _ h => h) (Or.inl ⟨by rfl, ?_⟩) hHeld ?_
    rotate_left
    · intro wq hSw
      go_simp
      rfl
    try simp only [Act.put, List.setIfInBounds_toArray, List.set_cons_zero, List.set_cons_succ]
    refine wpAnyH_take (i := 4) (oi := { dst := some 18, op := Op.load 9 (Operand.tmp 17), type := _, pos := _, after := _, guard := _ }) (v := ?_) rfl (by kernel_rfl) (by kernel_rfl) (by kernel_rfl) (fun _ _ _ h => h) (Or.inl ⟨by rfl, ?_⟩) hHeld ?_
    rotate_left
    · intro wq hSw
      obtain ⟨⟨k0, k1, k2, k3⟩, _⟩ := hSw
      go_simp
      rfl
    try simp only [Act.put, List.setIfInBounds_toArray, List.set_cons_zero, List.set_cons_succ]
    refine wpAnyH_take (i := 5) (oi := { dst := some 19, op := Op.fieldAddr 25 (Operand.tmp 1) 2, type := _, pos := _, after := _, guard := _ }) (v := ?_) rfl (by kernel_rfl) (by kernel_rfl) (by kernel_rfl) (fun _ _ _ h => h) (Or.inl ⟨by rfl, ?_⟩) hHeld ?_
    rotate_left
    · intro wq hSw
      go_simp
      rfl
    try simp only [Act.put, List.setIfInBounds_toArray, List.set_cons_zero, List.set_cons_succ]
    refine wpAnyH_take (i := 6) (oi := { dst := some 20, op := Op.load 3 (Operand.tmp 19), type := _, pos := _, after := _, guard := _ }) (v := ?_) rfl (by kernel_rfl) (by kernel_rfl) (by kernel_rfl) (fun _ _ _ h => h) (Or.inl ⟨by rfl, ?_⟩) hHeld ?_
    rotate_left
    · intro wq hSw
      obtain ⟨⟨k0, k1, k2, k3⟩, _⟩ := hSw
      go_simp
      rfl
    try simp only [Act.put, List.setIfInBounds_toArray, List.set_cons_zero, List.set_cons_succ]
    refine wpAnyH_ready (rs := [7]) (by kernel_rfl) (by simp) ?_
    refine AllReadyH.cons (o := { dst := some 21, op := Op.call { callee := Callee.value (Operand.func 54), args := #[Operand.tmp 20], argTypes := #[3] }, type := _, pos := _, after := _, guard := _ }) rfl (fun KK hKK => ?_) AllReadyH.nil
    have hKS := Lib.hid hKK
    clear hKK
    go_simp
    refine (hz1 _).mono ?_
    rintro e w7 ⟨rfl, rfl⟩
    go_wp2_with fail
    refine hKS.out.out _ _ hHeld (fun hHeld => ?_)
    clear hKS KK
    try simp only [Act.put, List.setIfInBounds_toArray, List.set_cons_zero, List.set_cons_succ]
    refine wpAnyH_take (i := 8) (oi := { dst := some 22, op := Op.binOp BinOp.add 9 (Operand.tmp 18) (Operand.tmp 21) 9, type := _, pos := _, after := _, guard := _ }) (v := ?_) rfl (by kernel_rfl) (by kernel_rfl) (by kernel_rfl) (fun _ _ _ h => h) (Or.inl ⟨by rfl, ?_⟩) hHeld ?_
    rotate_left
    · intro wq hSw
      go_simp
      rfl
    try simp only [Act.put, List.setIfInBounds_toArray, List.set_cons_zero, List.set_cons_succ]
    refine wpAnyH_ready (rs := [9]) (by kernel_rfl) (by simp) ?_
    refine AllReadyH.cons (o := { dst := some 23, op := Op.call { callee := Callee.value (Operand.func 53), args := #[Operand.tmp 14, Operand.tmp 16, Operand.tmp 22, Operand.const (Value.bool true)], argTypes := #[36, 3, 9, 4] }, type := _, pos := _, after := _, guard := _ }) rfl (fun KK hKK => ?_) AllReadyH.nil
    have hKS := Lib.hid hKK
    clear hKK
    go_simp
    refine (hp2 _ _ _ _ _ p1 (by omega) hHeld).mono ?_
    rintro e w9 ⟨⟨A2, n2, c2, rfl, p2⟩, hx⟩
    go_wp2_with fail
    refine hKS.out.out _ _ (hHeld.belowB hx) (fun hHeld => ?_)
    clear hKS KK hx
    try simp only [Act.put, List.setIfInBounds_toArray, List.set_cons_zero, List.set_cons_succ]
    refine wpAnyH_take (i := 10) (oi := { dst := some 4, op := Op.assign (Operand.tmp 23), type := _, pos := _, after := _, guard := _ }) (v := ?_) rfl (by kernel_rfl) (by kernel_rfl) (by kernel_rfl) (fun _ _ _ h => h) (Or.inl ⟨by rfl, ?_⟩) hHeld ?_
    rotate_left
    · intro wq hSw
      go_simp
      rfl
    try simp only [Act.put, List.setIfInBounds_toArray, List.set_cons_zero, List.set_cons_succ]
    refine wpAnyH_done (by kernel_rfl) ?_ _
    go_wp2_with fail
    refine (hz2 _).mono ?_
    rintro e w9 ⟨rfl, rfl⟩
    have l2 := p2.1
    rw [List.length_append, pp_len, pp_len] at l2
    subst l2
    have HP := Lib.hid (p2.below (grow w9 (Obj.cells #[.int .i64 ((15 : Nat) : Int), .string Z8, .bool true] 40)))
    have nc := Lib.hid (new_cells w9 ⟨15, Z8, true⟩)
    have HB := Lib.hid (show w.heap.size + 1 ≤ (w9.alloc (Obj.cells #[.int .i64 ((15 : Nat) : Int), .string Z8, .bool true] 40)).heap.size from Nat.le_trans hHeld.lt (grow _ _).size)
    have HH := Lib.hid (hHeld.below (grow w9 (Obj.cells #[.int .i64 ((15 : Nat) : Int), .string Z8, .bool true] 40)))
    clear hz1 hz2 hp2 p2 hHeld zz zd z5
    obtain ⟨m1, m2, m3⟩ := nc.out
    go_wp2_with (at_builtin; refine app_page rfl (.tmp 24) (.tmp 27) rfl (w.heap.size + 1) A2 (PA + PB) c2 _ rfl HP.out w9.heap.size 1 ⟨15, Z8, true⟩ rfl m1 m2 m3 (by omega) HB.out _ rfl ?_; intro g cap' wz hr2 hb2)
    go_ret2
    exact ⟨⟨_, _, _, rfl, hr2.base (by omega)⟩, (HH.out.belowB hb2).b⟩
end Xe
end Go.Proofs.Ytkbelpkmlmfedaa
