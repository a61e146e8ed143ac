/-
  THE WALK of bytes turned by the blocks, of the code.
-/
import Derived.Test.YtaoaebdjinlcnaaDoorCDb
set_option linter.unusedVariables false
set_option linter.unusedSimpArgs false
set_option maxRecDepth 100000
namespace Go.Proofs.YtaoaebdjinlcnaaDoor.Ci
open Go.RowKit
/-- a text's bytes as numbers -/
def tn (s : ByteArray) : List Nat := s.data.toList.map UInt8.toNat
theorem tn_length (s : ByteArray) : (tn s).length = s.size := by simp [tn]
theorem tn_by (s : ByteArray) : Ch.By (tn s) := fun x hx => by
  obtain ⟨c, _, rfl⟩ := List.mem_map.1 hx
  exact UInt8.toNat_lt c
theorem tn_get (s : ByteArray) {i : Nat} (h : i < s.size) : s[i].toNat = Ch.nth (tn s) i := by
  rw [Ch.nth_lt (by rw [tn_length]; exact h)]
  simp [tn]
  rfl
theorem bs_tn (s : ByteArray) : bs (tn s) = s := by
  unfold bs tn
  rw [List.map_map]
  have : (UInt8.ofNat ∘ UInt8.toNat) = id := by funext x; simp
  rw [this, List.map_id]
theorem tn_bs {L : List Nat} (h : Ch.By L) : tn (bs L) = L := by
  unfold bs tn
  simp only [List.map_map]
  rw [List.map_congr_left (g := id) (fun x hx => by simp; exact h x hx), List.map_id]
/-- the block's number for a place -/
def no (n i : Nat) : Nat := (n + i / 64) % 4294967296
/-- a byte, turned -/
def xb (K N : List Nat) (n : Nat) (D : List Nat) (i : Nat) : Nat := Ch.nth D i ^^^ Ch.nth (Ch.block K N (no n i)) (i % 64)
def xs (K N : List Nat) (n : Nat) (D : List Nat) : List Nat := (List.range D.length).map (xb K N n D)
theorem xs_length (K N : List Nat) (n : Nat) (D : List Nat) : (xs K N n D).length = D.length := by simp [xs]
theorem xs_nth (K N : List Nat) (n : Nat) (D : List Nat) {i : Nat} (h : i < D.length) : Ch.nth (xs K N n D) i = xb K N n D i := by
  rw [Ch.nth_lt (by rw [xs_length]; exact h)]; simp [xs]
theorem xb_lt (K N : List Nat) (n : Nat) {D : List Nat} (hD : Ch.By D) (i : Nat) : xb K N n D i < 256 := Nat.xor_lt_two_pow (n := 8) (hD.nth i) ((Ch.By.block K N _).nth _)
theorem xs_by (K N : List Nat) (n : Nat) {D : List Nat} (hD : Ch.By D) : Ch.By (xs K N n D) := fun x hx => by
  obtain ⟨i, _, rfl⟩ := List.mem_map.1 hx
  exact xb_lt K N n hD i
theorem made_zero (L : Nat) : madeCells #[.int .u8 0] L = vs .u8 (List.replicate L 0) := by
  apply Array.ext_getElem?
  intro j
  by_cases hj : j < L
  · simp [madeCells, vs, hj, List.getElem?_replicate, Nat.mod_one]
  · rw [Array.getElem?_eq_none (by simp [madeCells]; omega), Array.getElem?_eq_none (by rw [vs_size]; simp; omega)]
theorem info5b : (Tryd.prog.info? 5).map (fun i => (i.zero, i.size, i.bytes)) = some (some (.int .u8 0), 1, 1) := by kernel_rfl
theorem sto2 {ty : TypeId} {n : Nat} (T : ArrT ty n) {ops : Array Oper} {rest : List Oper} {o : Oper} {a : Act} {w : World} {Q : Exit → Act → World → Prop} {x y : Operand} {g : Nat} {t : TypeId} {k k' : IntKind} {l l' : List Nat}
    (hgd : o.guard = none) (hd : o.dst = none) (ho : o.op = .store ty x y) (hx : a.eval x = .pointer (some ⟨g, 0, none⟩)) (hy : a.eval y = .agg (vs k l)) (hg : Own w g t (vs k' l')) (hl' : l'.length = n) (hl : l.length = n)
    (h : wpList Tryd.prog ops Q rest a (w.setRow g (vs k l))) : wpList Tryd.prog ops Q (o :: rest) a w :=
  sto T hgd ho hx hy hg hl' hl (by rw [hd]; exact h)
set_option maxRecDepth 100000 in
set_option maxHeartbeats 4000000 in
theorem cxor_any (K N : List Nat) (n : Nat) (s : ByteArray) (hK : Ch.By K) (hN : Ch.By N) (lK : K.length = 32) (lN : N.length = 12) (hn : n < 4294967296) (hs : s.size ≤ 10000) (w : World) :
    Calls Tryd.prog 65 #[.agg (vs .u8 K), .agg (vs .u8 N), .int .u32 n, .string s] w fun e w' => e = .returned (.string (bs (xs K N n (tn s)))) ∧ Below w.heap.size w w' := by
  obtain ⟨D, hD⟩ : ∃ D, D = tn s := ⟨_, rfl⟩
  have lD : D.length = s.size := by rw [hD, tn_length]
  have bD : Ch.By D := by rw [hD]; exact tn_by s
  have hmk := fun w => run_make_row' 45 5 (.int .u8 0) 1 Tryd.underlying45 info5b rfl .i64 .i64 s.size (by omega) (by omega) w
  rw [made_zero] at hmk
  obtain ⟨X, hX⟩ : ∃ X, X = xs K N n D := ⟨_, rfl⟩
  have lX : X.length = s.size := by rw [hX, xs_length, lD]
  obtain ⟨W0, hW0⟩ : ∃ W0, W0 = (((w.alloc (Obj.cells (vs .u8 K) 24)).alloc (Obj.cells (vs .u8 N) 54)).alloc (Obj.cells (vs .u8 (List.replicate s.size 0)) 5)).alloc (Obj.cells (vs .u8 (List.replicate 64 0)) 90) := ⟨_, rfl⟩
  have o0 : Own W0 w.heap.size 24 (vs .u8 K) := by rw [hW0]; exact (((Own.new' _ _ _ rfl).alloc _).alloc _).alloc _
  have o1 : Own W0 (w.heap.size + 1) 54 (vs .u8 N) := by rw [hW0]; exact ((Own.new' _ _ _ (by simp)).alloc _).alloc _
  have o2 : Own W0 (w.heap.size + 1 + 1) 5 (vs .u8 (prn s.size X 0)) := by rw [hW0, prn_zero]; exact (Own.new' _ _ _ (by simp)).alloc _
  have o3 : Own W0 (w.heap.size + 1 + 1 + 1) 90 (vs .u8 (List.replicate 64 0)) := by rw [hW0]; exact Own.new' _ _ _ (by simp)
  have hb0 : Below w.heap.size w W0 := by rw [hW0]; exact ((((Below.refl _ w).alloc (by simp) _).alloc (by simp) _).alloc (by simp; omega) _).alloc (by simp; omega) _
  have HW0 := Lib.hid hW0
  have HD := Lib.hid hD
  have HX := Lib.hid hX
  clear hW0 hD hX
  go_enter Tryd.func65, Tryd.ntmps65
  go_wp2_with fail
  clear hmk
  change Code.wp _ _ _ _ ((((w.alloc (Obj.cells (vs .u8 K) 24)).alloc (Obj.cells (vs .u8 N) 54)).alloc (Obj.cells (vs .u8 (List.replicate s.size 0)) 5)).alloc (Obj.cells (vs .u8 (List.replicate 64 0)) 90))
  rw [← HW0.out]
  clear HW0
  obtain ⟨B2, hB2⟩ : ∃ b, b = w.heap.size + 1 + 1 := ⟨_, rfl⟩
  rw [← hB2] at o2 o3 ⊢
  have HB := Lib.hid hB2
  have hK2 : w.heap.size < B2 := by omega
  have hN2 : w.heap.size + 1 < B2 := by omega
  have HK := Lib.hid (And.intro o0 (And.intro o1 (And.intro hb0 (And.intro hK2 hN2))))
  clear hB2 o0 o1 hb0 hK2 hN2
  generalize W0 = wx at *
  go_loopw [17] (fun i' wr => ∃ i : Nat, i ≤ s.size ∧ i' = .int .i64 i ∧ Own wr B2 5 (vs .u8 (prn s.size X i)) ∧ (∃ Bk : List Nat, Bk.length = 64 ∧ Own wr (B2 + 1) 90 (vs .u8 Bk) ∧ (i % 64 ≠ 0 → Bk = Ch.block K N (no n i))) ∧ Below B2 wx wr) (fun i _ => s.size - (intOf i).toNat)
  case atStart => exact ⟨0, by omega, rfl, o2, ⟨_, rfl, o3, fun h => absurd rfl h⟩, Below.refl _ _⟩
  case round =>
    clear o2 o3
    obtain ⟨i, hi, rfl, oO, ⟨Bk, lB, oB, hBk⟩, hb⟩ := hrel
    generalize wr = wo at *
    by_cases hlt : i < s.size
    · by_cases hm : i % 64 = 0
      · clear hBk
        have o0 := Below.own hb HK.out.1 HK.out.2.2.2.1
        have o1 := Below.own hb HK.out.2.1 HK.out.2.2.2.2
        have hmI : (i : Int) % 64 = 0 := by omega
        have e1 : IntKind.u32.wrap ((i : Int) / 64) = (i : Int) / 64 := IntWalk.u32_in _ (by omega)
        have e2 : IntKind.u32.wrap ((n : Int) + (i : Int) / 64) = ((no n i : Nat) : Int) := by
          unfold no
          show ((n : Int) + (i : Int) / 64) % 4294967296 = _
          omega
        have hno : no n i < 4294967296 := Nat.mod_lt _ (by decide)
        have hcall := fun w => block_any K N (no n i) hK hN lK lN hno w
        have iS0 : (i : Int) < (s.size : Int) := by omega
        generalize hNo : no n i = m at *
        have HNo := Lib.hid hNo
        clear hNo
        have oBl := oB.lt
        have oOl := oO.lt
        go_wp2_with (first | (refine ld t23 rfl rfl rfl o0 lK ?_) | (refine ld t24 rfl rfl rfl o1 lN ?_))
        refine (hcall _).mono ?_
        rintro e w3 ⟨rfl, hx⟩
        have oO := Below.own hx oO oOl
        have oB := Below.own hx oB oBl
        have hb := hb.trans (hx.mono (Nat.le_of_lt oOl))
        clear hx hcall e2 hno o0 o1 oOl oBl iS0 e1
        have lBn := Ch.block_length K N m
        have oO := oO.rowOther (B2 + 1) (vs .u8 (Ch.block K N m)) (by omega)
        have oBB := oB
        have sB := oB.row (vs .u8 (Ch.block K N m))
        clear oB
        have hb := below_row hb (show B2 ≤ B2 + 1 from by omega) (vs .u8 (Ch.block K N m))
        go_wp2_with (refine sto2 t27 rfl rfl rfl rfl rfl oBB lB lBn ?_)
        clear lB oBB
        have lB := lBn
        have oB := sB
        have eB : Ch.block K N m = Ch.block K N (no n i) := by rw [HNo.out]
        generalize w3.setRow (B2 + 1) (vs .u8 (Ch.block K N m)) = w5 at *
        generalize Ch.block K N m = Bk at *
        clear sB lBn
        have iS : (i : Int) < (s.size : Int) := by omega
        have c1 := oO.drew.cell (i := i) (by rw [prn_length lX (by omega)]; exact hlt)
        have z1 := oO.drew.frozen i
        have c2 := oB.drew.cell (i := i % 64) (by omega)
        have b1 : s[i].toNat < 256 := UInt8.toNat_lt _
        have b2 : Ch.nth Bk (i % 64) < 256 := by rw [eB]; exact (Ch.By.block K N _).nth _
        have hx := u8_xor_nat _ _ b1 b2
        have hxx : s[i].toNat ^^^ Ch.nth Bk (i % 64) = Ch.nth X i := by rw [HX.out, xs_nth _ _ _ _ (by omega), tn_get s hlt, eB, HD.out]; rfl
        rw [hxx] at hx
        clear hxx b1 b2
        have st := oO.drew.set i (Ch.nth X i)
        rw [prn_next lX hlt] at st
        have sB := oB.drew.other ⟨B2, i, none⟩ (.int .u8 (Ch.nth X i : Nat)) (by show B2 + 1 ≠ B2; omega)
        have sb := hb.drew.setCell (p := ⟨B2, i, none⟩) (Nat.le_refl _) (.int .u8 (Ch.nth X i : Nat))
        generalize hq : i % 64 = q at c2 hx
        have iq : (q : Int) < 64 := by omega
        have eq2 : (i : Int) % 64 = (q : Int) := by omega
        have eq3 : (i : Int).tmod 64 = (q : Int) := by rw [Int.tmod_eq_emod_of_nonneg (by omega)]; exact eq2
        have hk : (i + 1) % 64 ≠ 0 → Bk = Ch.block K N (no n (i + 1)) := fun h => by rw [eB]; unfold no; rw [show (i + 1) / 64 = i / 64 from by omega]
        have HQ := Lib.hid hk
        clear hk hq eB oO oB hb
        refine wp_region_still_tail 11 (by kernel_rfl) (by kernel_rfl) ?_
        simp only [List.take_succ_cons, List.take_zero, List.drop_succ_cons, List.drop_zero]
        change wpStill _ _ (World.drew w5) (fun a' => wpList _ _ _ _ a' (World.drew w5)) _ _
        generalize World.drew w5 = w2 at *
        repeat still_step
        refine wpStill_nil ?_
        change wpList _ _ _ _ _ w2
        go_wp2_with fail
        go_roundw
        case rel => exact ⟨i + 1, by omega, by go_num, st, ⟨Bk, lB, sB, HQ.out⟩, sb⟩
        case measure => simp [intOf]; omega
      · have eB := hBk hm
        have hmI : ((i : Int) % 64 == 0) = false := by rw [beq_eq_false_iff_ne]; omega
        clear hBk
        have iS : (i : Int) < (s.size : Int) := by omega
        have c1 := oO.drew.cell (i := i) (by rw [prn_length lX (by omega)]; exact hlt)
        have z1 := oO.drew.frozen i
        have c2 := oB.drew.cell (i := i % 64) (by omega)
        have b1 : s[i].toNat < 256 := UInt8.toNat_lt _
        have b2 : Ch.nth Bk (i % 64) < 256 := by rw [eB]; exact (Ch.By.block K N _).nth _
        have hx := u8_xor_nat _ _ b1 b2
        have hxx : s[i].toNat ^^^ Ch.nth Bk (i % 64) = Ch.nth X i := by rw [HX.out, xs_nth _ _ _ _ (by omega), tn_get s hlt, eB, HD.out]; rfl
        rw [hxx] at hx
        clear hxx b1 b2
        have st := oO.drew.set i (Ch.nth X i)
        rw [prn_next lX hlt] at st
        have sB := oB.drew.other ⟨B2, i, none⟩ (.int .u8 (Ch.nth X i : Nat)) (by show B2 + 1 ≠ B2; omega)
        have sb := hb.drew.setCell (p := ⟨B2, i, none⟩) (Nat.le_refl _) (.int .u8 (Ch.nth X i : Nat))
        generalize hq : i % 64 = q at c2 hx
        have iq : (q : Int) < 64 := by omega
        have eq2 : (i : Int) % 64 = (q : Int) := by omega
        have eq3 : (i : Int).tmod 64 = (q : Int) := by rw [Int.tmod_eq_emod_of_nonneg (by omega)]; exact eq2
        have hk : (i + 1) % 64 ≠ 0 → Bk = Ch.block K N (no n (i + 1)) := fun h => by rw [eB]; unfold no; rw [show (i + 1) / 64 = i / 64 from by omega]
        have HQ := Lib.hid hk
        clear hk hq eB oO oB hb
        go_wp2_with fail
        refine wp_region_still_tail 11 (by kernel_rfl) (by kernel_rfl) ?_
        simp only [List.take_succ_cons, List.take_zero, List.drop_succ_cons, List.drop_zero]
        change wpStill _ _ (World.drew wo) (fun a' => wpList _ _ _ _ a' (World.drew wo)) _ _
        generalize World.drew wo = w2 at *
        repeat still_step
        refine wpStill_nil ?_
        change wpList _ _ _ _ _ w2
        go_wp2_with fail
        go_roundw
        case rel => exact ⟨i + 1, by omega, by go_num, st, ⟨Bk, lB, sB, HQ.out⟩, sb⟩
        case measure => simp [intOf]; omega
    · obtain rfl : i = s.size := by omega
      rw [prn_all lX] at oO
      have cv := bs_conv wo _ _ X s.size lX oO
      have hb := HK.out.2.2.1.trans (hb.mono (Nat.le_of_lt HK.out.2.2.2.1))
      go_wp2_with fail
      go_ret
      refine ⟨?_, hb⟩
      rw [HX.out, HD.out]
      rfl
end Go.Proofs.YtaoaebdjinlcnaaDoor.Ci
