/-
  THE WALK of bytes turned by the blocks, of the document's answer.
-/
import Derived.Test.YtaoaebdjinlcnaaDoorCLk
set_option linter.unusedVariables false
set_option linter.unusedSimpArgs false
set_option maxRecDepth 100000
namespace Go.Proofs.YtaoaebdjinlcnaaDoor.Ci
open Go.RowKit
theorem info_parts {t : TypeId} {z : Value} {s b : Nat} (h : (Tryd.prog.info? t).map (fun i => (i.zero, i.size, i.bytes)) = some (some z, s, b)) : ∃ i, Tryd.prog.info? t = some i ∧ i.zero = some z ∧ i.size = s ∧ i.bytes = b := by
  obtain ⟨i, hi, hz⟩ := Option.map_eq_some_iff.1 h
  simp only [Prod.mk.injEq] at hz
  exact ⟨i, hi, hz.1, hz.2.1, hz.2.2⟩
/-- a row of the call's own, of these bytes -/
def OB (w : World) (B g n cap : Nat) (l : List Nat) : Prop := l.length = n ∧ w.ownsRow B 5 1 (.slice (some ⟨g, 0, none⟩) n cap) n (vl l)
theorem OB.block {w : World} {B g n cap : Nat} {l : List Nat} (h : OB w B g n cap l) : B ≤ g ∧ g < w.heap.size := by
  rcases h.2.2 with ⟨h1, _⟩ | ⟨g', c, cur, h1, h2, h3, _⟩
  · injection h1 with h1; cases h1
  · injection h1 with h1
    injection h1 with h1
    injection h1 with h1
    subst h1
    exact ⟨h2, Own.lt h3⟩
theorem OB.keep {w w' : World} {B g n cap : Nat} {l : List Nat} (h : OB w B g n cap l) (hb : w'.heap[g]? = w.heap[g]?) : OB w' B g n cap l := by
  refine ⟨h.1, h.2.1, ?_⟩
  rcases h.2.2 with h1 | ⟨g', c, cur, h1, h2, h3, h4⟩
  · exact .inl h1
  · injection h1 with h1 h1' h1''
    injection h1 with h1
    injection h1 with h1
    subst h1 h1''
    exact .inr ⟨g, cap, cur, rfl, h2, hb.trans h3, h4⟩
theorem OB.below {w w' : World} {B g n cap : Nat} {l : List Nat} (h : OB w B g n cap l) (hb : Below w.heap.size w w') : OB w' B g n cap l := h.keep (hb.block g h.block.2)
theorem OB.row {w : World} {B g n cap : Nat} {l : List Nat} (h : OB w B g n cap l) (p : Nat) (c : Array Value) (hp : g ≠ p) : OB (w.setRow p c) B g n cap l := h.keep (heap_setRow _ _ _ _ hp)
theorem OB.empty {w : World} {B g : Nat} (h : Own w g 5 #[]) (hB : B ≤ g) : OB w B g 0 0 [] :=
  ⟨rfl, rfl, .inr ⟨g, 0, #[], rfl, hB, h, Nat.le_refl _, by decide, rfl, rfl⟩⟩
theorem OB.conv {w : World} {B g n cap : Nat} {l : List Nat} (h : OB w B g n cap l) : (convert 45 9 (.slice (some ⟨g, 0, none⟩) n cap)).run Tryd.prog w = .ok (.string (bs l)) w := by
  have hl := h.1
  subst hl
  have e := run_convert_bytes_arg w 45 5 Tryd.underlying45 Tryd.underlying5 g 0 l.length cap (l.map fun (x : Nat) => (x : Int)) (by simp) (fun i hi => by
    have hc := h.2.cells (g := g) rfl i (.int .u8 (Ch.nth l i : Nat)) (by unfold vl; rw [List.getElem?_map, Ch.nth_get hi]; rfl)
    rw [Addr.add_mid] at hc
    rw [hc, Ch.nth_lt hi]
    simp [List.getD_eq_getElem?_getD, hi]) 9 Tryd.underlying9
  rw [e]
  unfold strOfNums bs
  simp [List.map_map, Function.comp_def]
/-- the number of the block that comes next -/
def nx (n i : Nat) : Nat := (n + (i + 63) / 64) % 4294967296
theorem nx_zero (n : Nat) (h : n < 4294967296) : nx n 0 = n := by unfold nx; omega
theorem nx_at {n i : Nat} (h : i % 64 = 0) : nx n i = no n i ∧ nx n (i + 1) = (nx n i + 1) % 4294967296 := by unfold nx no; omega
theorem nx_in {n i : Nat} (h : i % 64 ≠ 0) : nx n (i + 1) = nx n i := by unfold nx; omega
set_option maxRecDepth 100000 in
set_option maxHeartbeats 8000000 in
theorem rxor_any (K N : List Nat) (n : Nat) (s : ByteArray) (hK : Ch.By K) (hN : Ch.By N) (lK : K.length = 32) (lN : N.length = 12) (hn : n < 4294967296) (hs : s.size ≤ 10000) (w : World) :
    Calls Tryd.prog 55 #[.agg (vs .u8 K), .agg (vs .u8 N), .int .u32 n, .string s] w fun e w' => e = .returned (.string (bs (xs K N n (tn s)))) ∧ Below w.heap.size w w' := by
  obtain ⟨D, hD⟩ : ∃ D, D = tn s := ⟨_, rfl⟩
  have lD : D.length = s.size := by rw [hD, tn_length]
  have bD : Ch.By D := by rw [hD]; exact tn_by s
  obtain ⟨X, hX⟩ : ∃ X, X = xs K N n D := ⟨_, rfl⟩
  have lX : X.length = s.size := by rw [hX, xs_length, lD]
  have bX : Ch.By X := by rw [hX]; exact xs_by K N n bD
  obtain ⟨W0, hW0⟩ : ∃ W0, W0 = (((w.alloc (Obj.cells (vs .u8 K) 24)).alloc (Obj.cells (vs .u8 N) 54)).alloc (Obj.cells #[] 5)).alloc (Obj.cells (vs .u8 (List.replicate 64 0)) 90) := ⟨_, rfl⟩
  have o0 : Own W0 w.heap.size 24 (vs .u8 K) := by rw [hW0]; exact (((Own.new' _ _ _ rfl).alloc _).alloc _).alloc _
  have o1 : Own W0 (w.heap.size + 1) 54 (vs .u8 N) := by rw [hW0]; exact ((Own.new' _ _ _ (by simp)).alloc _).alloc _
  have o2 : Own W0 (w.heap.size + 1 + 1) 5 #[] := by rw [hW0]; exact (Own.new' _ _ _ (by simp)).alloc _
  have o3 : Own W0 (w.heap.size + 1 + 1 + 1) 90 (vs .u8 (List.replicate 64 0)) := by rw [hW0]; exact Own.new' _ _ _ (by simp)
  have hb0 : Below w.heap.size w W0 := by rw [hW0]; exact ((((Below.refl _ w).alloc (by simp) _).alloc (by simp) _).alloc (by simp; omega) _).alloc (by simp; omega) _
  have HW0 := Lib.hid hW0
  have HD := Lib.hid hD
  have HX := Lib.hid hX
  clear hW0 hD hX
  go_enter Tryd.func55, Tryd.ntmps55
  go_wp2_with (refine sto_new t27 (k := .u8) (l := List.replicate 64 0) rfl rfl rfl (by simp) rfl rfl rfl ?_)
  change Code.wp _ _ _ _ ((((w.alloc (Obj.cells (vs .u8 K) 24)).alloc (Obj.cells (vs .u8 N) 54)).alloc (Obj.cells #[] 5)).alloc (Obj.cells (vs .u8 (List.replicate 64 0)) 90))
  rw [← HW0.out]
  clear HW0
  obtain ⟨B2, hB2⟩ : ∃ b, b = w.heap.size + 1 + 1 := ⟨_, rfl⟩
  rw [← hB2] at o2 o3 ⊢
  have hK2 : w.heap.size < B2 := by omega
  have hN2 : w.heap.size + 1 < B2 := by omega
  obtain ⟨B3, hB3⟩ : ∃ b, b = B2 + 1 := ⟨_, rfl⟩
  rw [← hB3] at o3 ⊢
  have h23 : B2 < B3 := by omega
  have HK := Lib.hid (And.intro o0 (And.intro o1 (And.intro hb0 (And.intro hK2 hN2))))
  clear hB2 hB3 o0 o1 hb0 hK2 hN2
  generalize W0 = wx at *
  go_loopw [2, 9, 11] (fun m' o' i' wr => ∃ i : Nat, i ≤ s.size ∧ i' = .int .i64 i ∧ m' = .int .u32 (nx n i : Nat) ∧ (∃ g cap : Nat, o' = .slice (some ⟨g, 0, none⟩) i cap ∧ g ≠ B3 ∧ OB wr B2 g i cap (X.take i)) ∧ (∃ Bk : List Nat, Bk.length = 64 ∧ Own wr B3 90 (vs .u8 Bk) ∧ (i % 64 ≠ 0 → Bk = Ch.block K N (no n i))) ∧ Below B2 wx wr) (fun _ _ i _ => s.size - (intOf i).toNat)
  case atStart => exact ⟨0, by omega, rfl, by rw [nx_zero n hn], ⟨B2, 0, rfl, by omega, OB.empty o2 (Nat.le_refl _)⟩, ⟨_, rfl, o3, fun h => absurd rfl h⟩, Below.refl _ _⟩
  case round =>
    clear o2 o3
    obtain ⟨i, hi, rfl, rfl, ⟨g, cap, rfl, hg, hO⟩, ⟨Bk, lB, oB, hBk⟩, hb⟩ := hrel
    generalize wr = wo at *
    by_cases hlt : i < s.size
    · by_cases hm : i % 64 = 0
      · clear hBk
        have o0 := Below.own hb HK.out.1 HK.out.2.2.2.1
        have o1 := Below.own hb HK.out.2.1 HK.out.2.2.2.2
        have hmI : (i : Int) % 64 = 0 := by omega
        obtain ⟨e1, e2⟩ := nx_at (n := n) hm
        have hno : no n i < 4294967296 := Nat.mod_lt _ (by decide)
        rw [e1] at e2 ⊢
        have e3 : IntKind.u32.wrap (((no n i : Nat) : Int) + 1) = ((nx n (i + 1) : Nat) : Int) := by rw [e2]; rfl
        have hcall := fun w => rblock_any K N (no n i) hK hN lK lN hno w
        have iS0 : (i : Int) < (s.size : Int) := by omega
        have HNX := Lib.hid (And.intro e1 e2)
        clear e1 e2
        generalize hm1 : nx n (i + 1) = m1 at *
        have HM1 := Lib.hid hm1
        clear hm1 HNX
        generalize hNo : no n i = m at *
        have HNo := Lib.hid hNo
        clear hNo
        have oBl := oB.lt
        go_wp2_with (first | (refine ld t23 rfl rfl rfl o0 lK ?_) | (refine ld t24 rfl rfl rfl o1 lN ?_))
        refine (hcall _).mono ?_
        rintro e w3 ⟨rfl, hx⟩
        have hO := hO.below hx
        have oBB := Below.own hx oB oBl
        have hb := hb.trans (hx.mono (by have := hO.block; omega))
        clear hx hcall hno o0 o1 oBl iS0 oB
        have lBn := Ch.block_length K N m
        have hO := hO.row B3 (vs .u8 (Ch.block K N m)) hg
        have sB := oBB.row (vs .u8 (Ch.block K N m))
        have hb := below_row hb (Nat.le_of_lt h23) (vs .u8 (Ch.block K N m))
        go_wp2_with (refine sto2 t27 rfl rfl rfl rfl rfl oBB lB lBn ?_)
        clear lB oBB
        have lB := lBn
        have oB := sB
        have eB : Ch.block K N m = Ch.block K N (no n i) := by rw [HNo.out]
        generalize w3.setRow B3 (vs .u8 (Ch.block K N m)) = wo2 at *
        generalize Ch.block K N m = Bk at *
        clear sB lBn e3
        have iS : (i : Int) < (s.size : Int) := by omega
        have cz := oB.drew.cell (i := i % 64) (by omega)
        have b1 : s[i].toNat < 256 := UInt8.toNat_lt _
        have b2 : Ch.nth Bk (i % 64) < 256 := by rw [eB]; exact (Ch.By.block K N _).nth _
        have hxx : s[i].toNat ^^^ Ch.nth Bk (i % 64) = Ch.nth X i := by rw [HX.out, xs_nth _ _ _ _ (by omega), tn_get s hlt, eB, HD.out]; rfl
        have b3 := bX.nth i
        generalize hq : i % 64 = q at *
        generalize Ch.nth Bk q = z at *
        have iq : (q : Int) < 64 := by omega
        have eq3 : (i : Int).tmod 64 = (q : Int) := by rw [Int.tmod_eq_emod_of_nonneg (by omega)]; omega
        have hk : (i + 1) % 64 ≠ 0 → Bk = Ch.block K N (no n (i + 1)) := fun h => by rw [eB]; unfold no; rw [show (i + 1) / 64 = i / 64 from by omega]
        have HQ := Lib.hid hk
        have hxor := fun w => xor_any s[i].toNat z w (by omega) (by omega)
        rw [hxx] at hxor
        have u1 : IntKind.u64.wrap (s[i].toNat : Int) = (s[i].toNat : Int) := u64w (by omega) (by omega)
        have u2 : IntKind.u64.wrap (z : Int) = (z : Int) := u64w (by omega) (by omega)
        have htk : X.take (i + 1) = X.take i ++ [Ch.nth X i] := by rw [List.take_succ_eq_append_getElem (by omega), Ch.nth_lt (by omega)]
        have HT := Lib.hid htk
        generalize Ch.nth X i = x at *
        have u3 : IntKind.u8.wrap (x : Int) = (x : Int) := IntWalk.u8_in _ (by omega)
        clear hk eB b1 b2 hxx htk hq
        clear hm hmI
        go_wp2_with fail
        refine wp_region_held_drew (S := fun w' => w'.cell? ⟨B3, q, none⟩ = some (.int .u8 (z : Nat))) (by kernel_rfl) cz (fun hHeld => ?_)
        refine wpAnyH_take (i := 0) (oi := { dst := some 29, op := Op.move (.tmp 9), type := _, pos := _, after := _, guard := _ }) (v := ?_) rfl (by kernel_rfl) (by kernel_rfl) (by kernel_rfl) (fun _ _ _ h => h) (Or.inl ⟨by rfl, ?_⟩) hHeld ?_
        rotate_left
        · intro wq hSw
          go_simp
          rfl
        try simp only [Act.put, List.setIfInBounds_toArray, List.set_cons_zero, List.set_cons_succ]
        refine wpAnyH_take (i := 1) (oi := { dst := some 30, op := Op.move (.tmp 3), type := _, pos := _, after := _, guard := _ }) (v := ?_) rfl (by kernel_rfl) (by kernel_rfl) (by kernel_rfl) (fun _ _ _ h => h) (Or.inl ⟨by rfl, ?_⟩) hHeld ?_
        rotate_left
        · intro wq hSw
          go_simp
          rfl
        try simp only [Act.put, List.setIfInBounds_toArray, List.set_cons_zero, List.set_cons_succ]
        refine wpAnyH_take (i := 2) (oi := { dst := some 31, op := Op.move (.tmp 11), type := _, pos := _, after := _, guard := _ }) (v := ?_) rfl (by kernel_rfl) (by kernel_rfl) (by kernel_rfl) (fun _ _ _ h => h) (Or.inl ⟨by rfl, ?_⟩) hHeld ?_
        rotate_left
        · intro wq hSw
          go_simp
          rfl
        try simp only [Act.put, List.setIfInBounds_toArray, List.set_cons_zero, List.set_cons_succ]
        refine wpAnyH_take (i := 3) (oi := { dst := some 32, op := Op.index 9 (.tmp 30) (.tmp 31), type := _, pos := _, after := _, guard := _ }) (v := ?_) rfl (by kernel_rfl) (by kernel_rfl) (by kernel_rfl) (fun _ _ _ h => h) (Or.inl ⟨by rfl, ?_⟩) hHeld ?_
        rotate_left
        · intro wq hSw
          go_simp
          rfl
        try simp only [Act.put, List.setIfInBounds_toArray, List.set_cons_zero, List.set_cons_succ]
        refine wpAnyH_take (i := 4) (oi := { dst := some 33, op := Op.convert 5 22 (.tmp 32), type := _, pos := _, after := _, guard := _ }) (v := ?_) rfl (by kernel_rfl) (by kernel_rfl) (by kernel_rfl) (fun _ _ _ h => h) (Or.inl ⟨by rfl, ?_⟩) hHeld ?_
        rotate_left
        · intro wq hSw
          go_simp
          rfl
        try simp only [Act.put, List.setIfInBounds_toArray, List.set_cons_zero, List.set_cons_succ]
        refine wpAnyH_take (i := 5) (oi := { dst := some 34, op := Op.move (.tmp 11), type := _, pos := _, after := _, guard := _ }) (v := ?_) rfl (by kernel_rfl) (by kernel_rfl) (by kernel_rfl) (fun _ _ _ h => h) (Or.inl ⟨by rfl, ?_⟩) hHeld ?_
        rotate_left
        · intro wq hSw
          go_simp
          rfl
        try simp only [Act.put, List.setIfInBounds_toArray, List.set_cons_zero, List.set_cons_succ]
        refine wpAnyH_take (i := 6) (oi := { dst := some 35, op := Op.binOp .rem 3 (.tmp 34) (.const (.int .i64 64)) 3, type := _, pos := _, after := _, guard := _ }) (v := ?_) rfl (by kernel_rfl) (by kernel_rfl) (by kernel_rfl) (fun _ _ _ h => h) (Or.inl ⟨by rfl, ?_⟩) hHeld ?_
        rotate_left
        · intro wq hSw
          go_simp
          rfl
        try simp only [Act.put, List.setIfInBounds_toArray, List.set_cons_zero, List.set_cons_succ]
        refine wpAnyH_take (i := 7) (oi := { dst := some 36, op := Op.indexAddr 90 (.tmp 10) (.tmp 35), type := _, pos := _, after := _, guard := _ }) (v := ?_) rfl (by kernel_rfl) (by kernel_rfl) (by kernel_rfl) (fun _ _ _ h => h) (Or.inl ⟨by rfl, ?_⟩) hHeld ?_
        rotate_left
        · intro wq hSw
          go_simp
          rfl
        try simp only [Act.put, List.setIfInBounds_toArray, List.set_cons_zero, List.set_cons_succ]
        refine wpAnyH_take (i := 8) (oi := { dst := some 37, op := Op.load 5 (.tmp 36), type := _, pos := _, after := _, guard := _ }) (v := ?_) rfl (by kernel_rfl) (by kernel_rfl) (by kernel_rfl) (fun _ _ _ h => h) (Or.inl ⟨by rfl, ?_⟩) hHeld ?_
        rotate_left
        · intro wq hSw
          go_simp
          rfl
        try simp only [Act.put, List.setIfInBounds_toArray, List.set_cons_zero, List.set_cons_succ]
        refine wpAnyH_take (i := 9) (oi := { dst := some 38, op := Op.convert 5 22 (.tmp 37), type := _, pos := _, after := _, guard := _ }) (v := ?_) rfl (by kernel_rfl) (by kernel_rfl) (by kernel_rfl) (fun _ _ _ h => h) (Or.inl ⟨by rfl, ?_⟩) hHeld ?_
        rotate_left
        · intro wq hSw
          go_simp
          rfl
        try simp only [Act.put, List.setIfInBounds_toArray, List.set_cons_zero, List.set_cons_succ]
        refine wpAnyH_ready (rs := [10]) (by kernel_rfl) (by simp) ?_
        refine AllReadyH.cons (o := { dst := some 39, op := Op.call { callee := .value (.func 70), args := #[.tmp 33, .tmp 38], argTypes := #[22, 22] }, type := _, pos := _, after := _, guard := _ } ) rfl (fun KK hKK => ?_) AllReadyH.nil
        go_simp
        refine (hxor _).mono ?_
        rintro e w3 ⟨rfl, rfl⟩
        go_wp2_with fail
        refine hKK.out _ _ hHeld (fun hHeld => ?_)
        clear hKK KK
        try simp only [Act.put, List.setIfInBounds_toArray, List.set_cons_zero, List.set_cons_succ]
        refine wpAnyH_take (i := 11) (oi := { dst := some 40, op := Op.convert 22 5 (.tmp 39), type := _, pos := _, after := _, guard := _ }) (v := ?_) rfl (by kernel_rfl) (by kernel_rfl) (by kernel_rfl) (fun _ _ _ h => h) (Or.inl ⟨by rfl, ?_⟩) hHeld ?_
        rotate_left
        · intro wq hSw
          go_simp
          rfl
        try simp only [Act.put, List.setIfInBounds_toArray, List.set_cons_zero, List.set_cons_succ]
        refine wpAnyH_ready (rs := [12]) (by kernel_rfl) (by simp) ?_
        refine AllReadyH.cons (o := { dst := some 41, op := Op.buildSlice 45 1 #[(0, .tmp 40)], type := _, pos := _, after := _, guard := _ }) rfl (fun KK hKK => ?_) AllReadyH.nil
        go_simp
        refine hKK.out _ _ (by exact (((Below.refl _ _).alloc (Nat.le_refl _) _).cell (World.block_lt_of_cell? _ _ hHeld)).trans hHeld) (fun hHeld => ?_)
        clear hKK KK
        try simp only [Act.put, List.setIfInBounds_toArray, List.set_cons_zero, List.set_cons_succ]
        obtain ⟨i0, hi0, hz0, hz1, hz2⟩ := info_parts info5b
        have hbd := hO.block
        have hBl := oB.lt
        have hO1 : OB (World.drew (wo2.alloc (Obj.cells #[Value.int .u8 (x : Int)] 5))) B2 g i cap (X.take i) := (hO.below ((Below.refl _ _).alloc (Nat.le_refl _) _)).keep rfl
        have oN : Own (World.drew (wo2.alloc (Obj.cells #[Value.int .u8 (x : Int)] 5))) wo2.heap.size 5 #[Value.int .u8 (x : Int)] := Own.new _ _ _
        have oB1 : Own (World.drew (wo2.alloc (Obj.cells #[Value.int .u8 (x : Int)] 5))) B3 90 (vs .u8 Bk) := oB.alloc _
        have hb1 : Below B2 wx (World.drew (wo2.alloc (Obj.cells #[Value.int .u8 (x : Int)] 5))) := (hb.alloc (by omega) _).drew
        have hsz1 : (World.drew (wo2.alloc (Obj.cells #[Value.int .u8 (x : Int)] 5))).heap.size = wo2.heap.size + 1 := by show (wo2.heap.push _).size = _; simp
        refine wpAnyH_ready (rs := [13]) (by kernel_rfl) (by simp) ?_
        refine AllReadyH.cons (o := { dst := some 42, op := Op.call { callee := .builtin .append, args := #[.tmp 29, .tmp 41], argTypes := #[45, 45] }, type := _, pos := _, after := _, guard := _ }) rfl (fun KK hKK => ?_) AllReadyH.nil
        refine step_append_lies _ rfl (.tmp 29) (.tmp 41) 45 rfl B2 5 i0 (.int .u8 0) 1 1 Tryd.underlying45 hi0 hz0 hz1 hz2 rfl (by decide) (.slice (some ⟨g, 0, none⟩) i cap) i (vl (X.take i)) rfl hO1.2 ⟨wo2.heap.size, 0, none⟩ 1 1 [.int .u8 (x : Int)] rfl rfl ?hnews1 ?hone1 (by decide) ?hmax1 ?hbytes1 ?hbase1 (wo2.heap.size + 1) hsz1 ?hgo1
        case hnews1 =>
          intro j u hu
          match j, hu with
          | 0, hu =>
            simp only [List.getElem?_cons_zero, Option.some.injEq] at hu
            rw [Addr.add_mid, oN.cellv, ← hu]
            rfl
        case hone1 =>
          intro u hu
          simp only [List.mem_singleton] at hu
          rw [hu]; rfl
        case hmax1 => unfold maxLen; omega
        case hbytes1 => omega
        case hbase1 => rw [hsz1]; omega
        intro g2 cap2 w6 h2 h3 h4 h5
        have hg2 : g2 ≠ B3 := by
          rcases h4 with h4 | h4
          · have : g = g2 := by simpa [Value.ownBlock] using h4
            omega
          · omega
        have oB2 : Own w6 B3 90 (vs .u8 Bk) := oB1.kept (h3.block B3 (by rw [hsz1]; omega) (by simpa [Value.ownBlock] using fun h => hg h.symm))
        refine hKK.out _ _ ((oB2.cellv q).trans (((oB1.cellv q).symm).trans hHeld)) (fun hHeld => ?_)
        clear hKK KK
        try simp only [Act.put, List.setIfInBounds_toArray, List.set_cons_zero, List.set_cons_succ]
        refine wpAnyH_take (i := 14) (oi := { dst := some 9, op := Op.assign (.tmp 42), type := _, pos := _, after := _, guard := _ }) (v := ?_) rfl (by kernel_rfl) (by kernel_rfl) (by kernel_rfl) (fun _ _ _ h => h) (Or.inl ⟨by rfl, ?_⟩) hHeld ?_
        rotate_left
        · intro wq hSw
          go_simp
          rfl
        try simp only [Act.put, List.setIfInBounds_toArray, List.set_cons_zero, List.set_cons_succ]
        refine wpAnyH_done (by kernel_rfl) ?_ _
        have hO2 : OB w6 B2 g2 (i + 1) cap2 (X.take (i + 1)) := ⟨by rw [List.length_take]; omega, by
          have e : vl (X.take (i + 1)) = vl (X.take i) ++ [.int .u8 (x : Int)] := by rw [HT.out]; simp [vl]
          rw [e]; exact h2⟩
        have hb2 : Below B2 wx w6 := hb1.grown h3 (by rw [hsz1]; omega) (fun k hk => by
          have : g = k := by simpa [Value.ownBlock] using hk
          omega)
        clear hO hO1 oN oB1 hb1 hsz1 h2 h3 h4 h5 hi0 hz0 hz1 hz2 hb oB hHeld hxor cz
        go_wp2_with fail
        go_roundw
        case rel => exact ⟨i + 1, by omega, by go_num, by rw [HM1.out], ⟨g2, cap2, rfl, hg2, hO2⟩, ⟨Bk, lB, oB2, HQ.out⟩, hb2⟩
        case measure => simp [intOf]; omega
      · have eB := hBk hm
        have hmI : ((i : Int) % 64 == 0) = false := by rw [beq_eq_false_iff_ne]; omega
        have e1 := nx_in (n := n) hm
        clear hBk
        rw [← e1]
        generalize hm1 : nx n (i + 1) = m1 at *
        have HM1 := Lib.hid hm1
        clear e1 hm1
        have iS : (i : Int) < (s.size : Int) := by omega
        have cz := oB.drew.cell (i := i % 64) (by omega)
        have b1 : s[i].toNat < 256 := UInt8.toNat_lt _
        have b2 : Ch.nth Bk (i % 64) < 256 := by rw [eB]; exact (Ch.By.block K N _).nth _
        have hxx : s[i].toNat ^^^ Ch.nth Bk (i % 64) = Ch.nth X i := by rw [HX.out, xs_nth _ _ _ _ (by omega), tn_get s hlt, eB, HD.out]; rfl
        have b3 := bX.nth i
        generalize hq : i % 64 = q at *
        generalize Ch.nth Bk q = z at *
        have iq : (q : Int) < 64 := by omega
        have eq3 : (i : Int).tmod 64 = (q : Int) := by rw [Int.tmod_eq_emod_of_nonneg (by omega)]; omega
        have hk : (i + 1) % 64 ≠ 0 → Bk = Ch.block K N (no n (i + 1)) := fun h => by rw [eB]; unfold no; rw [show (i + 1) / 64 = i / 64 from by omega]
        have HQ := Lib.hid hk
        have hxor := fun w => xor_any s[i].toNat z w (by omega) (by omega)
        rw [hxx] at hxor
        have u1 : IntKind.u64.wrap (s[i].toNat : Int) = (s[i].toNat : Int) := u64w (by omega) (by omega)
        have u2 : IntKind.u64.wrap (z : Int) = (z : Int) := u64w (by omega) (by omega)
        have htk : X.take (i + 1) = X.take i ++ [Ch.nth X i] := by rw [List.take_succ_eq_append_getElem (by omega), Ch.nth_lt (by omega)]
        have HT := Lib.hid htk
        generalize Ch.nth X i = x at *
        have u3 : IntKind.u8.wrap (x : Int) = (x : Int) := IntWalk.u8_in _ (by omega)
        clear hk eB b1 b2 hxx htk hq
        go_wp2_with fail
        refine wp_region_held_drew (S := fun w' => w'.cell? ⟨B3, q, none⟩ = some (.int .u8 (z : Nat))) (by kernel_rfl) cz (fun hHeld => ?_)
        refine wpAnyH_take (i := 0) (oi := { dst := some 29, op := Op.move (.tmp 9), type := _, pos := _, after := _, guard := _ }) (v := ?_) rfl (by kernel_rfl) (by kernel_rfl) (by kernel_rfl) (fun _ _ _ h => h) (Or.inl ⟨by rfl, ?_⟩) hHeld ?_
        rotate_left
        · intro wq hSw
          go_simp
          rfl
        try simp only [Act.put, List.setIfInBounds_toArray, List.set_cons_zero, List.set_cons_succ]
        refine wpAnyH_take (i := 1) (oi := { dst := some 30, op := Op.move (.tmp 3), type := _, pos := _, after := _, guard := _ }) (v := ?_) rfl (by kernel_rfl) (by kernel_rfl) (by kernel_rfl) (fun _ _ _ h => h) (Or.inl ⟨by rfl, ?_⟩) hHeld ?_
        rotate_left
        · intro wq hSw
          go_simp
          rfl
        try simp only [Act.put, List.setIfInBounds_toArray, List.set_cons_zero, List.set_cons_succ]
        refine wpAnyH_take (i := 2) (oi := { dst := some 31, op := Op.move (.tmp 11), type := _, pos := _, after := _, guard := _ }) (v := ?_) rfl (by kernel_rfl) (by kernel_rfl) (by kernel_rfl) (fun _ _ _ h => h) (Or.inl ⟨by rfl, ?_⟩) hHeld ?_
        rotate_left
        · intro wq hSw
          go_simp
          rfl
        try simp only [Act.put, List.setIfInBounds_toArray, List.set_cons_zero, List.set_cons_succ]
        refine wpAnyH_take (i := 3) (oi := { dst := some 32, op := Op.index 9 (.tmp 30) (.tmp 31), type := _, pos := _, after := _, guard := _ }) (v := ?_) rfl (by kernel_rfl) (by kernel_rfl) (by kernel_rfl) (fun _ _ _ h => h) (Or.inl ⟨by rfl, ?_⟩) hHeld ?_
        rotate_left
        · intro wq hSw
          go_simp
          rfl
        try simp only [Act.put, List.setIfInBounds_toArray, List.set_cons_zero, List.set_cons_succ]
        refine wpAnyH_take (i := 4) (oi := { dst := some 33, op := Op.convert 5 22 (.tmp 32), type := _, pos := _, after := _, guard := _ }) (v := ?_) rfl (by kernel_rfl) (by kernel_rfl) (by kernel_rfl) (fun _ _ _ h => h) (Or.inl ⟨by rfl, ?_⟩) hHeld ?_
        rotate_left
        · intro wq hSw
          go_simp
          rfl
        try simp only [Act.put, List.setIfInBounds_toArray, List.set_cons_zero, List.set_cons_succ]
        refine wpAnyH_take (i := 5) (oi := { dst := some 34, op := Op.move (.tmp 11), type := _, pos := _, after := _, guard := _ }) (v := ?_) rfl (by kernel_rfl) (by kernel_rfl) (by kernel_rfl) (fun _ _ _ h => h) (Or.inl ⟨by rfl, ?_⟩) hHeld ?_
        rotate_left
        · intro wq hSw
          go_simp
          rfl
        try simp only [Act.put, List.setIfInBounds_toArray, List.set_cons_zero, List.set_cons_succ]
        refine wpAnyH_take (i := 6) (oi := { dst := some 35, op := Op.binOp .rem 3 (.tmp 34) (.const (.int .i64 64)) 3, type := _, pos := _, after := _, guard := _ }) (v := ?_) rfl (by kernel_rfl) (by kernel_rfl) (by kernel_rfl) (fun _ _ _ h => h) (Or.inl ⟨by rfl, ?_⟩) hHeld ?_
        rotate_left
        · intro wq hSw
          go_simp
          rfl
        try simp only [Act.put, List.setIfInBounds_toArray, List.set_cons_zero, List.set_cons_succ]
        refine wpAnyH_take (i := 7) (oi := { dst := some 36, op := Op.indexAddr 90 (.tmp 10) (.tmp 35), type := _, pos := _, after := _, guard := _ }) (v := ?_) rfl (by kernel_rfl) (by kernel_rfl) (by kernel_rfl) (fun _ _ _ h => h) (Or.inl ⟨by rfl, ?_⟩) hHeld ?_
        rotate_left
        · intro wq hSw
          go_simp
          rfl
        try simp only [Act.put, List.setIfInBounds_toArray, List.set_cons_zero, List.set_cons_succ]
        refine wpAnyH_take (i := 8) (oi := { dst := some 37, op := Op.load 5 (.tmp 36), type := _, pos := _, after := _, guard := _ }) (v := ?_) rfl (by kernel_rfl) (by kernel_rfl) (by kernel_rfl) (fun _ _ _ h => h) (Or.inl ⟨by rfl, ?_⟩) hHeld ?_
        rotate_left
        · intro wq hSw
          go_simp
          rfl
        try simp only [Act.put, List.setIfInBounds_toArray, List.set_cons_zero, List.set_cons_succ]
        refine wpAnyH_take (i := 9) (oi := { dst := some 38, op := Op.convert 5 22 (.tmp 37), type := _, pos := _, after := _, guard := _ }) (v := ?_) rfl (by kernel_rfl) (by kernel_rfl) (by kernel_rfl) (fun _ _ _ h => h) (Or.inl ⟨by rfl, ?_⟩) hHeld ?_
        rotate_left
        · intro wq hSw
          go_simp
          rfl
        try simp only [Act.put, List.setIfInBounds_toArray, List.set_cons_zero, List.set_cons_succ]
        refine wpAnyH_ready (rs := [10]) (by kernel_rfl) (by simp) ?_
        refine AllReadyH.cons (o := { dst := some 39, op := Op.call { callee := .value (.func 70), args := #[.tmp 33, .tmp 38], argTypes := #[22, 22] }, type := _, pos := _, after := _, guard := _ } ) rfl (fun KK hKK => ?_) AllReadyH.nil
        go_simp
        refine (hxor _).mono ?_
        rintro e w3 ⟨rfl, rfl⟩
        go_wp2_with fail
        refine hKK.out _ _ hHeld (fun hHeld => ?_)
        clear hKK KK
        try simp only [Act.put, List.setIfInBounds_toArray, List.set_cons_zero, List.set_cons_succ]
        refine wpAnyH_take (i := 11) (oi := { dst := some 40, op := Op.convert 22 5 (.tmp 39), type := _, pos := _, after := _, guard := _ }) (v := ?_) rfl (by kernel_rfl) (by kernel_rfl) (by kernel_rfl) (fun _ _ _ h => h) (Or.inl ⟨by rfl, ?_⟩) hHeld ?_
        rotate_left
        · intro wq hSw
          go_simp
          rfl
        try simp only [Act.put, List.setIfInBounds_toArray, List.set_cons_zero, List.set_cons_succ]
        refine wpAnyH_ready (rs := [12]) (by kernel_rfl) (by simp) ?_
        refine AllReadyH.cons (o := { dst := some 41, op := Op.buildSlice 45 1 #[(0, .tmp 40)], type := _, pos := _, after := _, guard := _ }) rfl (fun KK hKK => ?_) AllReadyH.nil
        go_simp
        refine hKK.out _ _ (by exact (((Below.refl _ _).alloc (Nat.le_refl _) _).cell (World.block_lt_of_cell? _ _ hHeld)).trans hHeld) (fun hHeld => ?_)
        clear hKK KK
        try simp only [Act.put, List.setIfInBounds_toArray, List.set_cons_zero, List.set_cons_succ]
        obtain ⟨i0, hi0, hz0, hz1, hz2⟩ := info_parts info5b
        have hbd := hO.block
        have hBl := oB.lt
        have hO1 : OB (World.drew (wo.alloc (Obj.cells #[Value.int .u8 (x : Int)] 5))) B2 g i cap (X.take i) := (hO.below ((Below.refl _ _).alloc (Nat.le_refl _) _)).keep rfl
        have oN : Own (World.drew (wo.alloc (Obj.cells #[Value.int .u8 (x : Int)] 5))) wo.heap.size 5 #[Value.int .u8 (x : Int)] := Own.new _ _ _
        have oB1 : Own (World.drew (wo.alloc (Obj.cells #[Value.int .u8 (x : Int)] 5))) B3 90 (vs .u8 Bk) := oB.alloc _
        have hb1 : Below B2 wx (World.drew (wo.alloc (Obj.cells #[Value.int .u8 (x : Int)] 5))) := (hb.alloc (by omega) _).drew
        have hsz1 : (World.drew (wo.alloc (Obj.cells #[Value.int .u8 (x : Int)] 5))).heap.size = wo.heap.size + 1 := by show (wo.heap.push _).size = _; simp
        refine wpAnyH_ready (rs := [13]) (by kernel_rfl) (by simp) ?_
        refine AllReadyH.cons (o := { dst := some 42, op := Op.call { callee := .builtin .append, args := #[.tmp 29, .tmp 41], argTypes := #[45, 45] }, type := _, pos := _, after := _, guard := _ }) rfl (fun KK hKK => ?_) AllReadyH.nil
        refine step_append_lies _ rfl (.tmp 29) (.tmp 41) 45 rfl B2 5 i0 (.int .u8 0) 1 1 Tryd.underlying45 hi0 hz0 hz1 hz2 rfl (by decide) (.slice (some ⟨g, 0, none⟩) i cap) i (vl (X.take i)) rfl hO1.2 ⟨wo.heap.size, 0, none⟩ 1 1 [.int .u8 (x : Int)] rfl rfl ?hnews2 ?hone2 (by decide) ?hmax2 ?hbytes2 ?hbase2 (wo.heap.size + 1) hsz1 ?hgo2
        case hnews2 =>
          intro j u hu
          match j, hu with
          | 0, hu =>
            simp only [List.getElem?_cons_zero, Option.some.injEq] at hu
            rw [Addr.add_mid, oN.cellv, ← hu]
            rfl
        case hone2 =>
          intro u hu
          simp only [List.mem_singleton] at hu
          rw [hu]; rfl
        case hmax2 => unfold maxLen; omega
        case hbytes2 => omega
        case hbase2 => rw [hsz1]; omega
        intro g2 cap2 w6 h2 h3 h4 h5
        have hg2 : g2 ≠ B3 := by
          rcases h4 with h4 | h4
          · have : g = g2 := by simpa [Value.ownBlock] using h4
            omega
          · omega
        have oB2 : Own w6 B3 90 (vs .u8 Bk) := oB1.kept (h3.block B3 (by rw [hsz1]; omega) (by simpa [Value.ownBlock] using fun h => hg h.symm))
        refine hKK.out _ _ ((oB2.cellv q).trans (((oB1.cellv q).symm).trans hHeld)) (fun hHeld => ?_)
        clear hKK KK
        try simp only [Act.put, List.setIfInBounds_toArray, List.set_cons_zero, List.set_cons_succ]
        refine wpAnyH_take (i := 14) (oi := { dst := some 9, op := Op.assign (.tmp 42), type := _, pos := _, after := _, guard := _ }) (v := ?_) rfl (by kernel_rfl) (by kernel_rfl) (by kernel_rfl) (fun _ _ _ h => h) (Or.inl ⟨by rfl, ?_⟩) hHeld ?_
        rotate_left
        · intro wq hSw
          go_simp
          rfl
        try simp only [Act.put, List.setIfInBounds_toArray, List.set_cons_zero, List.set_cons_succ]
        refine wpAnyH_done (by kernel_rfl) ?_ _
        have hO2 : OB w6 B2 g2 (i + 1) cap2 (X.take (i + 1)) := ⟨by rw [List.length_take]; omega, by
          have e : vl (X.take (i + 1)) = vl (X.take i) ++ [.int .u8 (x : Int)] := by rw [HT.out]; simp [vl]
          rw [e]; exact h2⟩
        have hb2 : Below B2 wx w6 := hb1.grown h3 (by rw [hsz1]; omega) (fun k hk => by
          have : g = k := by simpa [Value.ownBlock] using hk
          omega)
        clear hO hO1 oN oB1 hb1 hsz1 h2 h3 h4 h5 hi0 hz0 hz1 hz2 hb oB hHeld hxor cz
        go_wp2_with fail
        go_roundw
        case rel => exact ⟨i + 1, by omega, by go_num, by rw [HM1.out], ⟨g2, cap2, rfl, hg2, hO2⟩, ⟨Bk, lB, oB2, HQ.out⟩, hb2⟩
        case measure => simp [intOf]; omega
    · obtain rfl : i = s.size := by omega
      rw [List.take_of_length_le (by omega)] at hO
      have cv := hO.conv
      have hb := HK.out.2.2.1.trans (hb.mono (Nat.le_of_lt HK.out.2.2.2.1))
      go_wp2_with fail
      go_ret
      refine ⟨?_, hb⟩
      rw [HX.out, HD.out]
      rfl
end Go.Proofs.YtaoaebdjinlcnaaDoor.Ci
