/-
  THE WALK of an inode put (inode.Put).
-/
import Derived.Test.YtambgmjiafcokaaDoorIl
namespace Go.Proofs.YtambgmjiafcokaaDoor
set_option linter.unusedVariables false
set_option maxRecDepth 100000
set_option linter.unusedSimpArgs false
open Go.RowKit Go.Shelf
attribute [local go_sem] Oper.semAt_some
namespace Dw
open _root_.Go.Proofs.YtambgmjiafcokaaDoor.Nm hiding Own
theorem cellB {W W' : World} {a : Addr} {v : Value} (h : W.cell? a = some v) (hx : Below W.heap.size W W') : W'.cell? a = some v := (hx.cell (World.block_lt_of_cell? _ _ h)).trans h
theorem toL_mk (l : List UInt8) : toL ⟨l.toArray⟩ = l := by simp [toL]
theorem keeps_below {W W' : World} (h : Below W.heap.size W W') : KeepsOthers W W' := ⟨h.size, fun k o ho _ => (h.block k (Array.getElem?_eq_some_iff.1 ho).1).trans ho⟩
/-- what putting answers -/
def PutIs (l : List ByteArray) (n : Int) (X : Nat → Int) (B : Nat) (e : Ending) (w' : World) : Prop :=
  ((∀ b m, ¬ Vol l b m) ∧ e = .returned (.tuple #[.slice none 0 0, .int .i64 3])) ∨
  (∃ b m, Vol l b m ∧ (n < 1 ∨ (m : Int) < n) ∧ e = .returned (.tuple #[.slice none 0 0, .int .i64 2])) ∨
  (∃ b m j : Nat, Vol l b m ∧ n = ((j : Nat) : Int) ∧ 1 ≤ j ∧ j ≤ m ∧ ¬ Ni.Fit X ∧ e = .returned (.tuple #[.slice none 0 0, .int .i64 1])) ∨
  (∃ b m j A' c', Vol l b m ∧ n = ((j : Nat) : Int) ∧ 1 ≤ j ∧ j ≤ m ∧ Ni.Fit X ∧ e = .returned (.tuple #[.slice A' b c', .int .i64 0]) ∧ RS w' B A' b c' (putL l j X))
/-- the boxes of the loop: the inode, the text -/
structure PI (w : World) (X : Nat → Int) (B : Nat) (U : ByteArray) (W : World) : Prop where
  a : Nm.Own W w.heap.size 27 (ic X)
  t : Nm.Own W B 9 #[.string U]
  l : Below w.heap.size w W
  le : w.heap.size + 1 ≤ B
theorem PI.lt {w W : World} {X : Nat → Int} {B : Nat} {U : ByteArray} (h : PI w X B U W) : B + 1 ≤ W.heap.size := h.t.lt
theorem PI.low {w W W' : World} {X : Nat → Int} {B n₀ : Nat} {U : ByteArray} (h : PI w X B U W) (k : Below n₀ W W') (hn : B + 1 ≤ n₀) : PI w X B U W' :=
  ⟨(k.block _ (by have := h.le; omega)).trans h.a, (k.block _ (by omega)).trans h.t, h.l.trans (k.mono (by have := h.le; omega)), h.le⟩
theorem PI.below {w W W' : World} {X : Nat → Int} {B : Nat} {U : ByteArray} (h : PI w X B U W) (k : Below W.heap.size W W') : PI w X B U W' := h.low k h.lt
theorem PI.drew {w W : World} {X : Nat → Int} {B : Nat} {U : ByteArray} (h : PI w X B U W) : PI w X B U W.drew := ⟨h.a, h.t, h.l.drew, h.le⟩
theorem PI.grown {w W W' : World} {X : Nat → Int} {B n₀ : Nat} {U : ByteArray} {row : Option Nat} (h : PI w X B U W) (hg : W.grownBy W' row) (hr : ∀ r, row = some r → n₀ ≤ r) (hB : B + 1 ≤ n₀) : PI w X B U W' := by
  have hl := h.lt
  have hle := h.le
  have hk : ∀ k, k < B + 1 → W'.heap[k]? = W.heap[k]? := fun k hk => hg.block k (by omega) (fun e => by have := hr k e.symm; omega)
  exact ⟨(hk _ (by omega)).trans h.a, (hk _ (by omega)).trans h.t, h.l.grown hg (by omega) (fun k e => by have := hr k e; omega), hle⟩
theorem PI.setT {w W : World} {X : Nat → Int} {B : Nat} {U : ByteArray} (h : PI w X B U W) (U2 : ByteArray) : PI w X B U2 (W.setCell ⟨B, 0, none⟩ (.string U2)) := by
  have hle := h.le
  exact ⟨h.a.other (by simp; omega) _, h.t.set 0 _, h.l.setCell (p := ⟨B, 0, none⟩) (by simp; omega) _, hle⟩
/-- the bytes of fields -/
def pbs (X : Nat → Int) (xs : List (Fin 12)) : List UInt8 := xs.flatMap fun q => Nu.putB (X q.val).toNat (Ni.sz q.val)
theorem pbs_next (X : Nat → Int) (xs : List (Fin 12)) (q : Fin 12) : pbs X (xs ++ [q]) = pbs X xs ++ Nu.putB (X q.val).toNat (Ni.sz q.val) := by
  unfold pbs
  rw [List.flatMap_append]
  simp
theorem pbs_fr (X : Nat → Int) : ∀ k, k ≤ 12 → pbs X (fr k) = Ni.enc X k
  | 0, _ => rfl
  | k + 1, h => by rw [← fr_next (show k < 12 by omega), pbs_next, pbs_fr X k (by omega)]; rfl
theorem pbs_all (X : Nat → Int) : pbs X (List.finRange 12) = Ni.enc X 12 := by rw [← fr_all, pbs_fr X 12 (Nat.le_refl _)]
theorem pbs_len (X : Nat → Int) (xs : List (Fin 12)) : (pbs X xs).length ≤ 4 * xs.length := by
  induction xs with
  | nil => exact Nat.le_refl _
  | cons q xs ih =>
    have e : pbs X (q :: xs) = Nu.putB (X q.val).toNat (Ni.sz q.val) ++ pbs X xs := rfl
    rw [e, List.length_append, Nu.putB_length, List.length_cons]
    have := (Ni.sz_le q.val q.isLt).2
    omega
set_option maxHeartbeats 2000000 in
theorem put_in (k : Nat) (hk : 4 ≤ k) (A : Option Addr) (m c : Nat) (l : List ByteArray) (n : Int) (X : Nat → Int) (w : World) (hl : Tz w A m c l) (hL : Lit l m) :
    CallsIn Fence.wide k Tryd.prog 16 #[.slice A m c, .int .i64 n, .agg (ic X)] w fun e w' => PutIs l n X w.heap.size e w' ∧ Below w.heap.size w w' := by
  have h1 : 1 ≤ k := by omega
  have o0 := Nm.Own.new w 27 (ic X)
  have b0 := grow w (Obj.cells (ic X) 27)
  have hwh := where_any A m c l n (w.alloc (Obj.cells (ic X) 27)) (hl.below b0) hL
  refine callsIn_of_wp_marks Tryd.func16 rfl trivial ?_ rfl
  simp only [Tryd.ntmps16, List.size_toArray, List.length_cons, List.length_nil, Nat.reduceAdd, Nat.reduceSub, Array.replicate_succ, Array.replicate_zero, List.push_toArray, List.append_toArray, List.nil_append, List.cons_append]
  gi_wp2
  refine ⟨trivial, (callsIn_wide.2 hwh).mono ?_⟩
  rintro e W1 ⟨hw1, hx1⟩
  have o1 := o0.below hx1
  have b1 := b0.trans (hx1.mono b0.size)
  have hl1 := hl.below b1
  have hlt1 := o1.lt
  clear o0 b0 hwh hx1
  rcases hw1 with ⟨hv, rfl⟩ | ⟨b, y, hv, hn, rfl⟩ | ⟨b, y, j, hv, rfl, hj1, hj2, rfl⟩
  · have HV := Lib.hid hv
    clear hv
    gi_wp2
    exact ⟨.tuple #[.slice none 0 0, .int .i64 3], by simp [results, Tryd.results16, go_sem], .inl ⟨HV.out, rfl⟩, b1⟩
  · have HV := Lib.hid hv
    have HN := Lib.hid hn
    clear hv hn
    gi_wp2
    exact ⟨.tuple #[.slice none 0 0, .int .i64 2], by simp [results, Tryd.results16, go_sem], .inr (.inl ⟨b, y, HV.out, HN.out, rfl⟩), b1⟩
  · have hbk := bk_lt hv hj1 hj2
    have hmb : l.length = m := hl.t.1
    obtain rfl : m = b := hmb.symm.trans hv.len
    have hf := fits_any X W1
    obtain ⟨b0, off, rfl, hcell⟩ := hl.t.2 (by omega)
    have hb0 : b0 < w.heap.size := World.block_lt_of_cell? _ _ (hcell 0 (by omega))
    have hcT := hcell (bk j) (by omega)
    have hsT : (nth l (bk j)).size = 128 := hv.blk _ (by omega)
    have hKm : (bk j : Int) < (m : Int) := by omega
    have hpl := pl_le j
    have HV := Lib.hid hv
    have HX := Lib.hid (show putL l j X = l.set (bk j) (insT (nth l (bk j)) (pl j) X) from rfl)
    have hplz := pl_two j
    have hml := hv.lt
    have hvl := hv.len
    clear hcell hv
    gi_wp2_with (refine ld27i (.inl rfl) rfl rfl rfl o1 ?_)
    refine ⟨trivial, (callsIn_wide.2 hf).mono ?_⟩
    rintro e W2 ⟨⟨v, rfl, hvf⟩, hx2⟩
    have HF := Lib.hid hvf
    have o2 := o1.below hx2
    have b2 := b1.trans (hx2.mono b1.size)
    clear hvf hf o1 b1 hx2 hl1
    cases v
    · gi_wp2
      exact ⟨.tuple #[.slice none 0 0, .int .i64 1], by simp [results, Tryd.results16, go_sem], .inr (.inr (.inl ⟨m, y, j, HV.out, rfl, hj1, hj2, (fun h => nomatch HF.out.2 h), rfl⟩)), b2⟩
    · have c2 : W2.cell? ⟨b0, off + bk j, none⟩ = some (.string (nth l (bk j))) := (b2.cell (p := ⟨b0, off + bk j, none⟩) hb0).trans hcT
      have hlt2 := o2.lt
      generalize hT : nth l (bk j) = T at *
      generalize hKe : bk j = K at *
      generalize pl j = a at *
      have e0 : (a : Int) ≤ 128 := by omega
      have g2 : PI w X W2.heap.size (T.extract 0 a) (W2.alloc (Obj.cells #[.string (T.extract 0 a)] 9)) := ⟨o2.alloc _, Nm.Own.new _ _ _, b2.trans ((grow W2 _).mono b2.size), hlt2⟩
      have hT0 : toL (T.extract 0 a) = (toL T).take a := by rw [toL_extract]; simp
      have hc := fields_any w.heap.size (W2.alloc (Obj.cells #[.string (T.extract 0 a)] 9)) _ rfl
      gi_wp2
      refine ⟨trivial, (callsIn_wide.2 hc).mono ?_⟩
      rintro e W3 ⟨⟨Bn, r, cf, rfl, hF, hBn⟩, hx3⟩
      generalize T.extract 0 a = U0 at *
      have g3 := g2.low hx3 g2.lt
      have hsz : (W2.alloc (Obj.cells #[.string U0] 9)).heap.size = W2.heap.size + 1 := by simp
      rw [hsz] at hBn hx3
      clear g2 hc hsz o2 b2 c2
      generalize W2.heap.size = B at *
      have hlt3 := g3.lt
      have HFT := Lib.hid (HF.out.1 trivial)
      gi_wp2
      have hFb := hF.lt
      have hFr := hF.lr
      refine wpIn_rangeFunc_ownH (F := Fence.wide) (n := k) rfl h1 (gf := 39) (lb := #[.pointer (some ⟨Bn, 0, none⟩)]) rfl trivial (enters_of Tryd.func39 (by kernel_rfl) rfl)
        (it_stops (k - 1) (by omega) Bn r cf w.heap.size W3 hF) (fun h k => h.trans k) (fun W l o o' hl ho hc hw => Kf.putObj W o' (by omega) (by omega)) (Below.refl _ _) (fun _ => rfl)
        (fun pre W => (∃ U, PI w X B U W ∧ toL U = (toL T).take a ++ pbs X pre) ∧ W3.heap.size ≤ W.heap.size)
        (fun c0 pre W => False)
        (fun s Y Z row hs hg hr => ⟨by obtain ⟨U, h1, h2⟩ := hs.1; exact ⟨U, h1.grown hg (fun r e => (hr r e).1) (by omega), h2⟩, Nat.le_trans hs.2 hg.size⟩)
        (fun c0 s Y Z row hs hg hr => hs)
        ⟨⟨U0, g3, by rw [hT0]; simp [pbs]⟩, Nat.le_refl _⟩
        (fun x a' W => ∃ Bx, W3.heap.size ≤ Bx ∧ Nm.Own W Bx 54 #[.pointer (some ⟨w.heap.size, Ni.cl x.val, none⟩), .int .i64 (Ni.sz x.val : Nat)] ∧ a' = { tmps := #[.slice (some ⟨b0, off, none⟩) m c, .int .i64 j, .agg (ic X), undef, undef, .pointer (some ⟨w.heap.size, 0, none⟩), .slice none 0 0, .int .i64 0, .int .i64 K, .int .i64 a, .int .i64 0, .pointer (some ⟨B, 0, none⟩), .pointer (some ⟨Bx, 0, none⟩), undef, .tuple #[.int .i64 K, .int .i64 a, .int .i64 0], .slice (some ⟨b0, off, none⟩) m c, .int .i64 j, .tuple #[.int .i64 K, .int .i64 a, .int .i64 0], .int .i64 K, .int .i64 a, .int .i64 0, .int .i64 0, .bool false, undef, .agg (ic X), .bool true, .bool false, .slice (some ⟨b0, off, none⟩) m c, .int .i64 K, .pointer (some ⟨b0, off + K, none⟩), .string T, .int .i64 a, .string U0, .func (.func 39) #[] #[.pointer (some ⟨Bn, 0, none⟩)], .agg #[.pointer (some ⟨w.heap.size, Ni.cl x.val, none⟩), .int .i64 (Ni.sz x.val : Nat)], undef, undef, undef, undef, undef, undef, undef, undef, undef, undef, undef, undef, undef, undef, undef, undef, undef, undef, undef, undef, undef, undef, undef, undef, undef], defers := [] })
        (fun x a' _ Y Z row hs hg hr => by obtain ⟨Bx, h0, h1, h3⟩ := hs; exact ⟨Bx, h0, (grownBy_keeps_cells hg (fun r e => (hr r e).2) h1 rfl).trans h1, h3⟩)
        ?assign ?body ?done ?stop
      case assign =>
        rintro l pre x W K' ⟨⟨U, hG, hU⟩, hW⟩ hK
        unfold encF
        have hG2 := hG.below (grow W (Obj.cells #[.pointer (some ⟨w.heap.size, Ni.cl x.val, none⟩), .int .i64 (Ni.sz x.val : Nat)] 54))
        gi_wp2
        exact hK _ _ ((KeepsOthers.alloc _ _).from _) (Kf.below ((Below.refl _ W).alloc (Nat.le_refl _) _) (by omega) (by omega) (by simp)) ⟨⟨U, hG2, hU⟩, by simp; omega⟩ ⟨W.heap.size, hW, Nm.Own.new _ _ _, rfl⟩
      case body =>
        rintro l' pre x a' W hl' ⟨r', hr'⟩ ⟨⟨U, hG, hU⟩, hW⟩ ⟨Bx, hBx, oX, rfl⟩ hlt'
        have x0 := oX.cell 0
        have x1 := oX.cell 1
        simp only [List.getElem?_toArray, List.getElem?_cons_zero, List.getElem?_cons_succ] at x0 x1
        have hz := Ni.sz_le x.val x.isLt
        have hq := x.isLt
        obtain ⟨hv0, hv1⟩ := HFT.out x.val hq
        obtain ⟨v, hv⟩ := Int.eq_ofNat_of_zero_le hv0
        have hv2 : v < 4294967296 := by
          have := Nat.pow_le_pow_right (show 0 < 256 by decide) hz.2
          rw [show (256 : Nat) ^ 4 = 4294967296 from rfl] at this
          omega
        have hpn := pbs_next X pre x
        have hpl' := pbs_len X pre
        rw [hv, Int.toNat_natCast] at hpn
        have cx : W.cell? ⟨w.heap.size, Ni.cl x.val, none⟩ = some (.int .i64 (v : Int)) := by
          have := (hG.a.cell _).trans (ic_get X _ hq)
          rwa [hv] at this
        have yT : W.drew.cell? ⟨B, 0, none⟩ = some (.string U) := hG.t.cell 0
        have hlw := hG.lt
        have hle := hG.le
        have hUs : U.size ≤ 112 := by
          have := congrArg List.length hU
          rw [toL_length, List.length_append, List.length_take] at this
          omega
        have HG := Lib.hid hG.drew
        have hput := fun wr => put_any v (Ni.sz x.val : Int) (Ni.sz x.val) wr (by omega) (by omega)
        have HU := Lib.hid (show toL (U ++ ⟨(Nu.putB v (Ni.sz x.val)).toArray⟩) = (toL T).take a ++ pbs X (pre ++ [x]) by rw [toL_app', hU, hpn, toL_mk (Nu.putB v (Ni.sz x.val)), List.append_assoc])
        have hPs : (⟨(Nu.putB v (Ni.sz x.val)).toArray⟩ : ByteArray).size ≤ 4 := by rw [← toL_length, toL_mk, Nu.putB_length]; exact hz.2
        clear hU hG hpn hv hv0 hv1
        generalize (⟨(Nu.putB v (Ni.sz x.val)).toArray⟩ : ByteArray) = P at *
        generalize Ni.sz x.val = z at *
        generalize Ni.cl x.val = p at *
        have e1 : IntKind.u64.wrap (v : Int) = (v : Int) := by rw [IntKind.wrap_u64]; omega
        have e2 : ¬ 9223372036854775807 < U.size + P.size := by omega
        gi_wp2
        refine Fr.region_held (.inr ⟨_, rfl⟩) (S := fun U => U.cell? ⟨Bx, 0, none⟩ = some (.pointer (some ⟨w.heap.size, p, none⟩)) ∧ U.cell? ⟨Bx, 1, none⟩ = some (.int .i64 (z : Int)) ∧ U.cell? ⟨w.heap.size, p, none⟩ = some (.int .i64 (v : Int))) (by kernel_rfl) (by kernel_rfl) ⟨x0, x1, cx⟩ (fun hHeld => ?_)
        refine wpAnyH_take (i := 1) (oi := { dst := some 36, op := Op.fieldAddr 54 (Operand.tmp 12) 0, type := _, pos := _, after := _, guard := _ }) (v := ?_) rfl (by kernel_rfl) (by kernel_rfl) (by kernel_rfl) (fun _ _ _ h => h) (Or.inl ⟨by rfl, ?_⟩) hHeld ?_
        rotate_left
        · intro wq hSw
          go_simp
          rfl
        try simp only [Act.put, List.setIfInBounds_toArray, List.set_cons_zero, List.set_cons_succ]
        refine wpAnyH_take (i := 2) (oi := { dst := some 37, op := Op.load 52 (Operand.tmp 36), type := _, pos := _, after := _, guard := _ }) (v := ?_) rfl (by kernel_rfl) (by kernel_rfl) (by kernel_rfl) (fun _ _ _ h => h) (Or.inl ⟨by rfl, ?_⟩) hHeld ?_
        rotate_left
        · intro wq hSw
          obtain ⟨s1, s2, s3⟩ := hSw
          go_simp
          rfl
        try simp only [Act.put, List.setIfInBounds_toArray, List.set_cons_zero, List.set_cons_succ]
        refine wpAnyH_take (i := 3) (oi := { dst := some 38, op := Op.nilCheck (Operand.tmp 37), type := _, pos := _, after := _, guard := _ }) (v := ?_) rfl (by kernel_rfl) (by kernel_rfl) (by kernel_rfl) (fun _ _ _ h => h) (Or.inl ⟨by rfl, ?_⟩) hHeld ?_
        rotate_left
        · intro wq hSw
          go_simp
          rfl
        try simp only [Act.put, List.setIfInBounds_toArray, List.set_cons_zero, List.set_cons_succ]
        refine wpAnyH_take (i := 4) (oi := { dst := some 39, op := Op.load 3 (Operand.tmp 38), type := _, pos := _, after := _, guard := _ }) (v := ?_) rfl (by kernel_rfl) (by kernel_rfl) (by kernel_rfl) (fun _ _ _ h => h) (Or.inl ⟨by rfl, ?_⟩) hHeld ?_
        rotate_left
        · intro wq hSw
          obtain ⟨s1, s2, s3⟩ := hSw
          go_simp
          rfl
        try simp only [Act.put, List.setIfInBounds_toArray, List.set_cons_zero, List.set_cons_succ]
        refine wpAnyH_take (i := 5) (oi := { dst := some 40, op := Op.convert 3 55 (Operand.tmp 39), type := _, pos := _, after := _, guard := _ }) (v := ?_) rfl (by kernel_rfl) (by kernel_rfl) (by kernel_rfl) (fun _ _ _ h => h) (Or.inl ⟨by rfl, ?_⟩) hHeld ?_
        rotate_left
        · intro wq hSw
          go_simp
          rfl
        try simp only [Act.put, List.setIfInBounds_toArray, List.set_cons_zero, List.set_cons_succ]
        refine wpAnyH_take (i := 6) (oi := { dst := some 41, op := Op.fieldAddr 54 (Operand.tmp 12) 1, type := _, pos := _, after := _, guard := _ }) (v := ?_) rfl (by kernel_rfl) (by kernel_rfl) (by kernel_rfl) (fun _ _ _ h => h) (Or.inl ⟨by rfl, ?_⟩) hHeld ?_
        rotate_left
        · intro wq hSw
          go_simp
          rfl
        try simp only [Act.put, List.setIfInBounds_toArray, List.set_cons_zero, List.set_cons_succ]
        refine wpAnyH_take (i := 7) (oi := { dst := some 42, op := Op.load 3 (Operand.tmp 41), type := _, pos := _, after := _, guard := _ }) (v := ?_) rfl (by kernel_rfl) (by kernel_rfl) (by kernel_rfl) (fun _ _ _ h => h) (Or.inl ⟨by rfl, ?_⟩) hHeld ?_
        rotate_left
        · intro wq hSw
          obtain ⟨s1, s2, s3⟩ := hSw
          go_simp
          rfl
        try simp only [Act.put, List.setIfInBounds_toArray, List.set_cons_zero, List.set_cons_succ]
        refine wpAnyH_ready (rs := [0, 8]) (by kernel_rfl) (by simp) ?_
        refine AllReadyH.cons (o := { dst := some 35, op := Op.load 9 (Operand.tmp 11), type := _, pos := _, after := _, guard := _ }) rfl (fun KK hKK => ?_) ?_
        · have hKS := Lib.hid hKK
          clear hKK
          go_simp
          refine hKS.out.out _ _ hHeld (fun hHeld => ?_)
          clear hKS KK
          try simp only [Act.put, List.setIfInBounds_toArray, List.set_cons_zero, List.set_cons_succ]
          refine wpAnyH_ready (rs := [8]) (by kernel_rfl) (by simp) ?_
          refine AllReadyH.cons (o := { dst := some 43, op := Op.call { callee := Callee.value (Operand.func 30), args := #[Operand.tmp 40, Operand.tmp 42], argTypes := #[55, 3] }, type := _, pos := _, after := _, guard := _ }) rfl (fun KK hKK => ?_) AllReadyH.nil
          have hKS := Lib.hid hKK
          clear hKK
          go_simp
          refine (hput _).mono ?_
          rintro e w8 ⟨rfl, hx8⟩
          go_wp2_with fail
          replace yT := cellB yT hx8
          have HG := Lib.hid (HG.out.below hx8)
          have y6 := HG.out.t.frozen 0
          refine hKS.out.out _ _ ⟨cellB hHeld.1 hx8, cellB hHeld.2.1 hx8, cellB hHeld.2.2 hx8⟩ (fun hHeld => ?_)
          clear hKS KK
          try simp only [Act.put, List.setIfInBounds_toArray, List.set_cons_zero, List.set_cons_succ]
          refine wpAnyH_take (i := 9) (oi := { dst := some 44, op := Op.binOp BinOp.add 9 (Operand.tmp 35) (Operand.tmp 43) 9, type := _, pos := _, after := _, guard := _ }) (v := ?_) rfl (by kernel_rfl) (by kernel_rfl) (by kernel_rfl) (fun _ _ _ h => h) (Or.inl ⟨by rfl, ?_⟩) hHeld ?_
          rotate_left
          · intro wq hSw
            go_simp
            rfl
          try simp only [Act.put, List.setIfInBounds_toArray, List.set_cons_zero, List.set_cons_succ]
          refine wpAnyH_ready (rs := [10]) (by kernel_rfl) (by simp) ?_
          refine AllReadyH.cons (o := { dst := none, op := Op.store 9 (Operand.tmp 11) (Operand.tmp 44), type := _, pos := _, after := _, guard := _ }) rfl (fun KK hKK => ?_) AllReadyH.nil
          have hKS := Lib.hid hKK
          clear hKK
          go_simp
          refine hKS.out.out _ _ ⟨(World.cell?_setCell_far _ _ _ _ (by simp <;> omega)).trans hHeld.1, (World.cell?_setCell_far _ _ _ _ (by simp <;> omega)).trans hHeld.2.1, (World.cell?_setCell_far _ _ _ _ (by simp <;> omega)).trans hHeld.2.2⟩ (fun hHeld => ?_)
          clear hKS KK
          try simp only [Act.put, List.setIfInBounds_toArray, List.set_cons_zero, List.set_cons_succ]
          refine wpAnyH_done (by kernel_rfl) ?_ _
          refine Fr.nq ?_
          gi_wp2
          exact ⟨((KeepsOthers.drew W).trans ((keeps_below hx8).trans (KeepsOthers.setCell _ _ _))).from _, (Kf.below (Bn := Bn) (r := r) (W := W) (show Below W.heap.size W w8 from (Below.refl _ W).drew.trans hx8) (by omega) (by omega) hx8.size).setCell (a := ⟨B, 0, none⟩) _ (by simp <;> omega) (by simp <;> omega), ⟨_, HG.out.setT _, HU.out⟩, by have := hx8.size; simp at this ⊢; omega⟩
        refine AllReadyH.cons (o := { dst := some 43, op := Op.call { callee := Callee.value (Operand.func 30), args := #[Operand.tmp 40, Operand.tmp 42], argTypes := #[55, 3] }, type := _, pos := _, after := _, guard := _ }) rfl (fun KK hKK => ?_) AllReadyH.nil
        · have hKS := Lib.hid hKK
          clear hKK
          go_simp
          refine (hput _).mono ?_
          rintro e w8 ⟨rfl, hx8⟩
          go_wp2_with fail
          replace yT := cellB yT hx8
          have HG := Lib.hid (HG.out.below hx8)
          have y6 := HG.out.t.frozen 0
          refine hKS.out.out _ _ ⟨cellB hHeld.1 hx8, cellB hHeld.2.1 hx8, cellB hHeld.2.2 hx8⟩ (fun hHeld => ?_)
          clear hKS KK
          try simp only [Act.put, List.setIfInBounds_toArray, List.set_cons_zero, List.set_cons_succ]
          refine wpAnyH_ready (rs := [0]) (by kernel_rfl) (by simp) ?_
          refine AllReadyH.cons (o := { dst := some 35, op := Op.load 9 (Operand.tmp 11), type := _, pos := _, after := _, guard := _ }) rfl (fun KK hKK => ?_) AllReadyH.nil
          have hKS := Lib.hid hKK
          clear hKK
          go_simp
          refine hKS.out.out _ _ hHeld (fun hHeld => ?_)
          clear hKS KK
          try simp only [Act.put, List.setIfInBounds_toArray, List.set_cons_zero, List.set_cons_succ]
          refine wpAnyH_take (i := 9) (oi := { dst := some 44, op := Op.binOp BinOp.add 9 (Operand.tmp 35) (Operand.tmp 43) 9, type := _, pos := _, after := _, guard := _ }) (v := ?_) rfl (by kernel_rfl) (by kernel_rfl) (by kernel_rfl) (fun _ _ _ h => h) (Or.inl ⟨by rfl, ?_⟩) hHeld ?_
          rotate_left
          · intro wq hSw
            go_simp
            rfl
          try simp only [Act.put, List.setIfInBounds_toArray, List.set_cons_zero, List.set_cons_succ]
          refine wpAnyH_ready (rs := [10]) (by kernel_rfl) (by simp) ?_
          refine AllReadyH.cons (o := { dst := none, op := Op.store 9 (Operand.tmp 11) (Operand.tmp 44), type := _, pos := _, after := _, guard := _ }) rfl (fun KK hKK => ?_) AllReadyH.nil
          have hKS := Lib.hid hKK
          clear hKK
          go_simp
          refine hKS.out.out _ _ ⟨(World.cell?_setCell_far _ _ _ _ (by simp <;> omega)).trans hHeld.1, (World.cell?_setCell_far _ _ _ _ (by simp <;> omega)).trans hHeld.2.1, (World.cell?_setCell_far _ _ _ _ (by simp <;> omega)).trans hHeld.2.2⟩ (fun hHeld => ?_)
          clear hKS KK
          try simp only [Act.put, List.setIfInBounds_toArray, List.set_cons_zero, List.set_cons_succ]
          refine wpAnyH_done (by kernel_rfl) ?_ _
          refine Fr.nq ?_
          gi_wp2
          exact ⟨((KeepsOthers.drew W).trans ((keeps_below hx8).trans (KeepsOthers.setCell _ _ _))).from _, (Kf.below (Bn := Bn) (r := r) (W := W) (show Below W.heap.size W w8 from (Below.refl _ W).drew.trans hx8) (by omega) (by omega) hx8.size).setCell (a := ⟨B, 0, none⟩) _ (by simp <;> omega) (by simp <;> omega), ⟨_, HG.out.setT _, HU.out⟩, by have := hx8.size; simp at this ⊢; omega⟩
      case done =>
        rintro D ys W hD rfl ⟨⟨U, hG, hU⟩, hW⟩ hK
        rw [pbs_all] at hU
        have HU := Lib.hid hU
        have hKD := Lib.hid hK
        have hUs : U.size = a + 24 := by
          have := congrArg List.length hU
          rw [toL_length, List.length_append, List.length_take, toL_length, enc24] at this
          omega
        have hlw := hG.lt
        have hle := hG.le
        have hcl := clone_any (some ⟨b0, off, none⟩) m c l W (hl.below hG.l) (by omega)
        clear hU hK
        gi_wp2
        refine ⟨trivial, (callsIn_wide.2 hcl).mono ?_⟩
        rintro e W5 ⟨⟨A5, cp5, rfl, hr5⟩, hx5⟩
        have hG5 := hG.below hx5
        obtain ⟨g5, rfl⟩ : ∃ g, A5 = some ⟨g, 0, none⟩ := by
          rcases hr5.form with ⟨_, h0, _⟩ | ⟨g, e, _⟩
          · omega
          · exact ⟨g, e⟩
        have hD5 : W5.heap[D]? = some (.deferred (some [])) := (hx5.block D (Array.getElem?_eq_some_iff.1 hKD.out).1).trans hKD.out
        have hg5 := hr5.lt
        have f5 := hr5.frozen K
        have c5 : W5.cell? ⟨g5, K, none⟩ = some (.string T) := by rw [← hT, ← hKe]; exact hr5.cell (by omega)
        have y1 : W5.cell? ⟨B, 0, none⟩ = some (.string U) := hG5.t.cell 0
        have y2 : W5.cell? ⟨b0, off + K, none⟩ = some (.string T) := (hG5.l.cell (p := ⟨b0, off + K, none⟩) hb0).trans hcT
        have hPs := hr5.put K (insT T a X)
        have hRR := RS.mono hPs (show w.heap.size ≤ W.heap.size by omega)
        have HRR := Lib.hid hRR
        have hbl := hG5.l
        have HXX := HX.out
        have HE : insT T a X = U ++ T.extract (a + 24) 128 := by
          apply toL_inj
          rw [toL_ins, toL_app', HU.out, toL_extract]
          unfold Ni.ins
          rw [List.append_assoc]
          congr 2
          rw [show 128 - (a + 24) = ((toL T).drop (a + 24)).length by rw [List.length_drop, toL_length, hsT], List.take_length]
        have HEE := Lib.hid HE
        have e5 : (T.extract (a + 24) 128).size ≤ 128 := by rw [ByteArray.size_extract]; omega
        have e2 : ¬ 9223372036854775807 < U.size + (T.extract (a + 24) 128).size := by omega
        have e3 : ((a : Int) + 24) ≤ 128 := by omega
        have e6 : ¬ 9223372036854775807 < a + 24 + (104 - a) := by omega
        have hgW : w.heap.size ≤ W.heap.size := by omega
        have hgB : g5 ≠ B := by omega
        have hgb : g5 ≠ b0 := by omega
        have e4 : ((a : Int) + 24).toNat = a + 24 := by omega
        clear hPs hRR hr5 hG5 hx5 hG HE hcl
        gi_wp2
        refine Fr.region_held (.inl rfl) (S := fun U2 => U2.cell? ⟨B, 0, none⟩ = some (.string U) ∧ U2.cell? ⟨b0, off + K, none⟩ = some (.string T)) (by kernel_rfl) (by kernel_rfl) ⟨y1, y2⟩ (fun hHeld => ?_)
        refine wpAnyH_take (i := 0) (oi := { dst := some 47, op := Op.move (Operand.tmp 13), type := _, pos := _, after := _, guard := _ }) (v := ?_) rfl (by kernel_rfl) (by kernel_rfl) (by kernel_rfl) (fun _ _ _ h => h) (Or.inl ⟨by rfl, ?_⟩) hHeld ?_
        rotate_left
        · intro wq hSw
          go_simp
          rfl
        try simp only [Act.put, List.setIfInBounds_toArray, List.set_cons_zero, List.set_cons_succ]
        refine wpAnyH_take (i := 1) (oi := { dst := some 48, op := Op.move (Operand.tmp 8), type := _, pos := _, after := _, guard := _ }) (v := ?_) rfl (by kernel_rfl) (by kernel_rfl) (by kernel_rfl) (fun _ _ _ h => h) (Or.inl ⟨by rfl, ?_⟩) hHeld ?_
        rotate_left
        · intro wq hSw
          go_simp
          rfl
        try simp only [Act.put, List.setIfInBounds_toArray, List.set_cons_zero, List.set_cons_succ]
        refine wpAnyH_take (i := 2) (oi := { dst := some 49, op := Op.load 9 (Operand.tmp 11), type := _, pos := _, after := _, guard := _ }) (v := ?_) rfl (by kernel_rfl) (by kernel_rfl) (by kernel_rfl) (fun _ _ _ h => h) (Or.inl ⟨by rfl, ?_⟩) hHeld ?_
        rotate_left
        · intro wq hSw
          obtain ⟨s1, s2⟩ := hSw
          go_simp
          rfl
        try simp only [Act.put, List.setIfInBounds_toArray, List.set_cons_zero, List.set_cons_succ]
        refine wpAnyH_take (i := 3) (oi := { dst := some 50, op := Op.move (Operand.tmp 0), type := _, pos := _, after := _, guard := _ }) (v := ?_) rfl (by kernel_rfl) (by kernel_rfl) (by kernel_rfl) (fun _ _ _ h => h) (Or.inl ⟨by rfl, ?_⟩) hHeld ?_
        rotate_left
        · intro wq hSw
          go_simp
          rfl
        try simp only [Act.put, List.setIfInBounds_toArray, List.set_cons_zero, List.set_cons_succ]
        refine wpAnyH_take (i := 4) (oi := { dst := some 51, op := Op.move (Operand.tmp 8), type := _, pos := _, after := _, guard := _ }) (v := ?_) rfl (by kernel_rfl) (by kernel_rfl) (by kernel_rfl) (fun _ _ _ h => h) (Or.inl ⟨by rfl, ?_⟩) hHeld ?_
        rotate_left
        · intro wq hSw
          go_simp
          rfl
        try simp only [Act.put, List.setIfInBounds_toArray, List.set_cons_zero, List.set_cons_succ]
        refine wpAnyH_take (i := 5) (oi := { dst := some 52, op := Op.indexAddr 22 (Operand.tmp 50) (Operand.tmp 51), type := _, pos := _, after := _, guard := _ }) (v := ?_) rfl (by kernel_rfl) (by kernel_rfl) (by kernel_rfl) (fun _ _ _ h => h) (Or.inl ⟨by rfl, ?_⟩) hHeld ?_
        rotate_left
        · intro wq hSw
          go_simp
          rfl
        try simp only [Act.put, List.setIfInBounds_toArray, List.set_cons_zero, List.set_cons_succ]
        refine wpAnyH_take (i := 6) (oi := { dst := some 53, op := Op.load 9 (Operand.tmp 52), type := _, pos := _, after := _, guard := _ }) (v := ?_) rfl (by kernel_rfl) (by kernel_rfl) (by kernel_rfl) (fun _ _ _ h => h) (Or.inl ⟨by rfl, ?_⟩) hHeld ?_
        rotate_left
        · intro wq hSw
          obtain ⟨s1, s2⟩ := hSw
          go_simp
          rfl
        try simp only [Act.put, List.setIfInBounds_toArray, List.set_cons_zero, List.set_cons_succ]
        refine wpAnyH_take (i := 7) (oi := { dst := some 54, op := Op.load 9 (Operand.tmp 11), type := _, pos := _, after := _, guard := _ }) (v := ?_) rfl (by kernel_rfl) (by kernel_rfl) (by kernel_rfl) (fun _ _ _ h => h) (Or.inl ⟨by rfl, ?_⟩) hHeld ?_
        rotate_left
        · intro wq hSw
          obtain ⟨s1, s2⟩ := hSw
          go_simp
          rfl
        try simp only [Act.put, List.setIfInBounds_toArray, List.set_cons_zero, List.set_cons_succ]
        refine wpAnyH_take (i := 8) (oi := { dst := some 55, op := Op.call { callee := Callee.builtin Builtin.len, args := #[Operand.tmp 54], argTypes := #[9] }, type := _, pos := _, after := _, guard := _ }) (v := ?_) rfl (by kernel_rfl) (by kernel_rfl) (by kernel_rfl) (fun _ _ _ h => h) (Or.inl ⟨by rfl, ?_⟩) hHeld ?_
        rotate_left
        · intro wq hSw
          go_simp
          rfl
        try simp only [Act.put, List.setIfInBounds_toArray, List.set_cons_zero, List.set_cons_succ]
        refine wpAnyH_take (i := 9) (oi := { dst := some 56, op := Op.slice 9 (Operand.tmp 53) (some (Operand.tmp 55)) none none, type := _, pos := _, after := _, guard := _ }) (v := ?_) rfl (by kernel_rfl) (by kernel_rfl) (by kernel_rfl) (fun _ _ _ h => h) (Or.inl ⟨by rfl, ?_⟩) hHeld ?_
        rotate_left
        · intro wq hSw
          go_simp
          rfl
        try simp only [Act.put, List.setIfInBounds_toArray, List.set_cons_zero, List.set_cons_succ]
        refine wpAnyH_take (i := 10) (oi := { dst := some 57, op := Op.binOp BinOp.add 9 (Operand.tmp 49) (Operand.tmp 56) 9, type := _, pos := _, after := _, guard := _ }) (v := ?_) rfl (by kernel_rfl) (by kernel_rfl) (by kernel_rfl) (fun _ _ _ h => h) (Or.inl ⟨by rfl, ?_⟩) hHeld ?_
        rotate_left
        · intro wq hSw
          go_simp
          rfl
        try simp only [Act.put, List.setIfInBounds_toArray, List.set_cons_zero, List.set_cons_succ]
        refine wpAnyH_take (i := 11) (oi := { dst := some 58, op := Op.indexAddr 22 (Operand.tmp 47) (Operand.tmp 48), type := _, pos := _, after := _, guard := _ }) (v := ?_) rfl (by kernel_rfl) (by kernel_rfl) (by kernel_rfl) (fun _ _ _ h => h) (Or.inl ⟨by rfl, ?_⟩) hHeld ?_
        rotate_left
        · intro wq hSw
          go_simp
          rfl
        try simp only [Act.put, List.setIfInBounds_toArray, List.set_cons_zero, List.set_cons_succ]
        refine wpAnyH_ready (rs := [12]) (by kernel_rfl) (by simp) ?_
        refine AllReadyH.cons (o := { dst := none, op := Op.store 9 (Operand.tmp 58) (Operand.tmp 57), type := _, pos := _, after := _, guard := _ }) rfl (fun KK hKK => ?_) AllReadyH.nil
        have hKS := Lib.hid hKK
        clear hKK
        go_simp
        refine hKS.out.out _ _ ⟨(World.cell?_setCell_far _ _ _ _ (by simp <;> omega)).trans hHeld.1, (World.cell?_setCell_far _ _ _ _ (by simp <;> omega)).trans hHeld.2⟩ (fun hHeld => ?_)
        clear hKS KK
        try simp only [Act.put, List.setIfInBounds_toArray, List.set_cons_zero, List.set_cons_succ]
        refine wpAnyH_done (by kernel_rfl) ?_ _
        refine Fr.nq ?_
        gi_wp2
        rw [← HEE.out]
        have hD6 : (W5.setCell ⟨g5, K, none⟩ (.string (insT T a X))).drew.heap[D]? = some (.deferred (some [])) := (Below.heap_setCell W5 ⟨g5, K, none⟩ _ D (by have := (Array.getElem?_eq_some_iff.1 hKD.out).1; simp; omega)).trans hD5
        have hg7 := grownBy_putObj' (W5.setCell ⟨g5, K, none⟩ (.string (insT T a X))).drew D (.deferred none)
        have hr7 := RS.kept (show RS (W5.setCell ⟨g5, K, none⟩ (.string (insT T a X))).drew w.heap.size (some ⟨g5, 0, none⟩) m cp5 (l.set K (insT T a X)) from HRR.out) hg7 (fun g e e2 => by cases e; cases e2; have := (Array.getElem?_eq_some_iff.1 hKD.out).1; omega)
        have hb7 : Below w.heap.size w ((W5.setCell ⟨g5, K, none⟩ (.string (insT T a X))).drew.putObj D (.deferred none)) := (hbl.setCell (p := ⟨g5, K, none⟩) (by simp; omega) _).drew.grown hg7 (by simp; have := hbl.size; omega) (fun k e => by cases e; omega)
        refine ⟨by simp, .inl ⟨_, _, rfl, run_takeDeferred hD6, ?_⟩⟩
        exact ⟨.tuple #[.slice (some ⟨g5, 0, none⟩) m cp5, .int .i64 0], by simp [results, Tryd.results16, go_sem], .inr (.inr (.inr ⟨m, y, j, _, _, HV.out, rfl, hj1, hj2, HFT.out, rfl, HXX ▸ hr7⟩)), hb7⟩
      case stop =>
        rintro D c0 pre W hD hpre hX hK
        exact False.elim hX
theorem put_iany (A : Option Addr) (m c : Nat) (l : List ByteArray) (n : Int) (X : Nat → Int) (w : World) (hl : Tz w A m c l) (hL : Lit l m) :
    Calls Tryd.prog 16 #[.slice A m c, .int .i64 n, .agg (ic X)] w fun e w' => PutIs l n X w.heap.size e w' ∧ Below w.heap.size w w' := callsIn_wide.1 (put_in 4 (by omega) A m c l n X w hl hL)
end Dw
end Go.Proofs.YtambgmjiafcokaaDoor
