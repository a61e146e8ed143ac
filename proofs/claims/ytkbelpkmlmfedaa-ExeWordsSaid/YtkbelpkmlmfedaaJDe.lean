/-
  THE WALKS of Dec, the code's and the document's.
-/
import Derived.Test.YtkbelpkmlmfedaaJIn
import Derived.RegionTactic
import Derived.BigRegion
namespace Go.Proofs.Ytkbelpkmlmfedaa.Is2
open Go.RowKit
set_option linter.unusedVariables false
theorem and15 (n : Nat) (h : n < 4294967296) : bits .and .u32 (n : Int) 15 = ((n % 16 : Nat) : Int) := by
  rw [show (15 : Int) = ((15 : Nat) : Int) from rfl, u32_and_nat n 15 h (by omega), show (15 : Nat) = 2 ^ 4 - 1 from rfl, Nat.and_two_pow_sub_one_eq_mod]
theorem At.below {W V : World} {g : Nat} {x : Is.Ins} (h : At W g x) (hb : Below W.heap.size W V) : At V g x := by
  have k := World.block_lt_of_cell? _ _ h.c0
  obtain ⟨a, b, c, d, e⟩ := h
  exact ⟨(hb.cell (p := ⟨g, 0, none⟩) k).trans a, (hb.cell (p := ⟨g, 1, none⟩) k).trans b, (hb.cell (p := ⟨g, 2, none⟩) k).trans c, (hb.cell (p := ⟨g, 3, none⟩) k).trans d, (hb.cell (p := ⟨g, 4, none⟩) k).trans e⟩
structure Two (W V : World) (z x : Is.Ins) : Prop where
  a : At V W.heap.size z
  b : At V (W.heap.size + 1) x
  f : ∀ i, V.frozen? ⟨W.heap.size, i, none⟩ = false
  s : W.heap.size + 1 < V.heap.size
  w : Below W.heap.size W V
theorem two_new (W : World) (z x : Is.Ins) (t : TypeId) : Two W ((W.alloc (Obj.cells (ic z) t)).alloc (Obj.cells (ic x) t)) z x := by
  refine ⟨(at_new W z t).below (grow _ _), ?_, fun i => ?_, by simp, (grow _ _).trans ((grow _ _).mono (by simp))⟩
  · have := at_new (W.alloc (Obj.cells (ic z) t)) x t
    simpa using this
  · rw [(grow (W.alloc (Obj.cells (ic z) t)) _).frozen (by simp)]
    show (World.alloc W _).frozen? _ = _
    unfold World.frozen?
    have h : (W.alloc (Obj.cells (ic z) t)).heap[W.heap.size]? = some (.cells (ic z) t (0, 0)) := by
      show (W.heap.push _)[W.heap.size]? = _
      simp
    rw [h]; simp
theorem Two.below {W V U : World} {z x : Is.Ins} (h : Two W V z x) (hb : Below V.heap.size V U) : Two W U z x :=
  ⟨h.a.below hb, h.b.below hb, fun i => (hb.frozen (p := ⟨W.heap.size, i, none⟩) (Nat.lt_trans (Nat.lt_succ_self _) h.s)).trans (h.f i), Nat.lt_of_lt_of_le h.s hb.size, h.w.trans (hb.mono (Nat.le_of_lt (Nat.lt_trans (Nat.lt_succ_self _) h.s)))⟩
theorem dec_yes {w : Nat} {x : Is.Ins} (h : Is.fields w = x) (k : Is.enc x = (w, 0)) : Is.dec w = (x, true) := by
  unfold Is.dec; rw [h, if_pos k]
theorem dec_not {w : Nat} {x : Is.Ins} {r : Nat × Nat} (h : Is.fields w = x) (k : Is.enc x = r) (hn : r ≠ (w, 0)) : Is.dec w = (Is.zero, false) := by
  unfold Is.dec; rw [h, k, if_neg hn]
theorem dec_out {w : Nat} (h : ¬ Is.isOp (Is.fields w).op) : Is.dec w = (Is.zero, false) := by
  unfold Is.dec
  rw [if_neg]
  intro k
  exact h (Is.enc_ok k).1
theorem five {B : Nat} {a u : World} (h : Below B a u) (v0 v1 v2 v3 v4 : Value) : Below B a (((((u.setCell ⟨B, 0, none⟩ v0).setCell ⟨B, 1, none⟩ v1).setCell ⟨B, 2, none⟩ v2).setCell ⟨B, 3, none⟩ v3).setCell ⟨B, 4, none⟩ v4) :=
  ((((h.setCell (Nat.le_refl _) _).setCell (Nat.le_refl _) _).setCell (Nat.le_refl _) _).setCell (Nat.le_refl _) _).setCell (Nat.le_refl _) _
theorem five_at {u : World} {B : Nat} {z : Is.Ins} (h : At u B z) (v0 v1 v2 v3 v4 : Value) :
    ∀ U, U = (((((u.setCell ⟨B, 0, none⟩ v0).setCell ⟨B, 1, none⟩ v1).setCell ⟨B, 2, none⟩ v2).setCell ⟨B, 3, none⟩ v3).setCell ⟨B, 4, none⟩ v4) →
    U.cell? ⟨B, 0, none⟩ = some v0 ∧ U.cell? ⟨B, 1, none⟩ = some v1 ∧ U.cell? ⟨B, 2, none⟩ = some v2 ∧ U.cell? ⟨B, 3, none⟩ = some v3 ∧ U.cell? ⟨B, 4, none⟩ = some v4 := by
  rintro U rfl
  obtain ⟨h0, h1, h2, h3, h4⟩ := h
  refine ⟨?_, ?_, ?_, ?_, ?_⟩ <;> simp [World.cell?_setCell_same', World.cell?_setCell_other, h0, h1, h2, h3, h4]
theorem i16_lo {M : Nat} (h : M ≤ 32767) : IntKind.i16.wrap (M : Int) = (M : Int) := by
  unfold IntKind.wrap IntKind.signed IntKind.bits
  simp only [Bool.true_and]
  rw [if_neg (by simp; omega)]
  omega
theorem i16_hi {M : Nat} (h : 32767 < M) (k : M < 65536) : IntKind.i16.wrap (M : Int) = (M : Int) - 65536 := by
  unfold IntKind.wrap IntKind.signed IntKind.bits
  simp only [Bool.true_and]
  rw [if_pos (by simp; omega)]
  omega
set_option maxRecDepth 100000 in
set_option maxHeartbeats 2000000 in
theorem dec_any (w : Nat) (hw : w < 4294967296) (W : World) :
    Calls Try.prog 28 #[.int .u32 w] W fun e W' => e = .returned (.tuple #[.agg (ic (Is.dec w).1), .bool (Is.dec w).2]) ∧ Below W.heap.size W W' := by
  obtain ⟨O, hO⟩ : ∃ O, O = w / 67108864 := ⟨_, rfl⟩
  obtain ⟨A, hA⟩ : ∃ A, A = w / 4194304 % 16 := ⟨_, rfl⟩
  obtain ⟨B, hB⟩ : ∃ B, B = w / 262144 % 16 := ⟨_, rfl⟩
  obtain ⟨C, hC⟩ : ∃ C, C = w / 16384 % 16 := ⟨_, rfl⟩
  obtain ⟨M, hM⟩ : ∃ M, M = w % 65536 := ⟨_, rfl⟩
  have eO : (w : Int) / 67108864 = (O : Int) := by omega
  have eA : bits .and .u32 ((w : Int) / 4194304) 15 = (A : Int) := by rw [hA, ← and15 _ (by omega)]; rfl
  have eB : bits .and .u32 ((w : Int) / 262144) 15 = (B : Int) := by rw [hB, ← and15 _ (by omega)]; rfl
  have eC : bits .and .u32 ((w : Int) / 16384) 15 = (C : Int) := by rw [hC, ← and15 _ (by omega)]; rfl
  have lO : (O : Int) < 64 := by omega
  have lA : (A : Int) < 16 := by omega
  have lB : (B : Int) < 16 := by omega
  have lC : (C : Int) < 16 := by omega
  have b1 : (w : Int) < 4294967296 := by omega
  have eM : IntKind.u16.wrap (w : Int) = (M : Int) := by rw [u16_wrap]; omega
  have lM : (M : Int) < 65536 := by omega
  have HF : Hid (Is.fields w = ⟨O, A, B, if Is.hasC O then C else 0, if Is.hasC O then 0 else Is.sign O M⟩) := Lib.hid (by unfold Is.fields; rw [hO, hA, hB, hC, hM])
  clear hO hA hB hC hM hw
  by_cases ho : Is.isOp O
  · have ho2 := decide_eq_true ho
    by_cases hC : Is.hasC O
    · have hc2 := decide_eq_true hC
      have hi2 := decide_eq_false (p := Is.hasImm O) (by unfold Is.hasImm; unfold Is.hasC at hC; omega)
      have HE : Hid (Is.fields w = ⟨O, A, B, C, 0⟩) := Lib.hid (by rw [HF.out, if_pos hC, if_pos hC])
      clear ho hC
      go_enter Try.func28, Try.ntmps28
      go_wp2_with fail
      refine (isOp_any _ _).mono ?_
      rintro e w1 ⟨rfl, rfl⟩
      rw [ho2]
      go_wp2_with fail
      refine (hasC_any _ _).mono ?_
      rintro e w1 ⟨rfl, rfl⟩
      rw [hc2]
      go_wp2_with fail
      refine (hasImm_any _ _).mono ?_
      rintro e w1 ⟨rfl, rfl⟩
      rw [hi2]
      go_wp2_with fail
      refine (enc_any ⟨O, A, B, C, 0⟩ (by refine ⟨?_, ?_, ?_, ?_, ?_, ?_⟩ <;> simp only <;> omega) _).mono ?_
      rintro e w2 ⟨rfl, hb⟩
      have st := (two_new W Is.zero ⟨O, A, B, C, 0⟩ 49).below hb
      clear hb
      obtain ⟨⟨a0, a1, a2, a3, a4⟩, ⟨c0, c1, c2, c3, c4⟩, f0, s0, w0⟩ := st
      generalize hr : Is.enc ⟨O, A, B, C, 0⟩ = r
      obtain ⟨v, n⟩ := r
      have Hr := Lib.hid hr
      clear hr
      by_cases hn : n = 0
      · subst hn
        by_cases hv : v = w
        · subst hv
          go_wp2_with fail
          have hq := five_at (At.mk a0 a1 a2 a3 a4) (.int .u8 O) (.int .u8 A) (.int .u8 B) (.int .u8 C) (.int .i32 0)
          have h5 := five w0 (.int .u8 O) (.int .u8 A) (.int .u8 B) (.int .u8 C) (.int .i32 0)
          clear a0 a1 a2 a3 a4 c0 c1 c2 c3 c4 f0
          generalize (((((w2.setCell ⟨W.heap.size, 0, none⟩ (.int .u8 O)).setCell ⟨W.heap.size, 1, none⟩ (.int .u8 A)).setCell ⟨W.heap.size, 2, none⟩ (.int .u8 B)).setCell ⟨W.heap.size, 3, none⟩ (.int .u8 C)).setCell ⟨W.heap.size, 4, none⟩ (.int .i32 0)) = U at *
          obtain ⟨q0, q1, q2, q3, q4⟩ := hq _ rfl
          refine bodyPost_ret (v := .tuple #[.agg #[.int .u8 O, .int .u8 A, .int .u8 B, .int .u8 C, .int .i32 0], .bool true]) (by simp [results, Try.results28, go_sem, q0, q1, q2, q3, q4]) rfl ⟨?_, ?_⟩
          · rw [dec_yes HE.out Hr.out]; rfl
          · exact h5
        · have HN : Hid ((v, 0) ≠ (w, 0)) := Lib.hid (fun h => hv (congrArg Prod.fst h))
          have e1 : ((v : Int) == (w : Int)) = false := by rw [beq_eq_false_iff_ne]; omega
          have e2 : ((v : Int) != (w : Int)) = true := by rw [bne, e1]; rfl
          clear hv
          go_wp2_with fail
          have hq := five_at (At.mk a0 a1 a2 a3 a4) (.int .u8 0) (.int .u8 0) (.int .u8 0) (.int .u8 0) (.int .i32 0)
          have h5 := five w0 (.int .u8 0) (.int .u8 0) (.int .u8 0) (.int .u8 0) (.int .i32 0)
          clear a0 a1 a2 a3 a4 c0 c1 c2 c3 c4 f0
          generalize (((((w2.setCell ⟨W.heap.size, 0, none⟩ (.int .u8 0)).setCell ⟨W.heap.size, 1, none⟩ (.int .u8 0)).setCell ⟨W.heap.size, 2, none⟩ (.int .u8 0)).setCell ⟨W.heap.size, 3, none⟩ (.int .u8 0)).setCell ⟨W.heap.size, 4, none⟩ (.int .i32 0)) = U at *
          obtain ⟨q0, q1, q2, q3, q4⟩ := hq _ rfl
          refine bodyPost_ret (v := .tuple #[.agg #[.int .u8 0, .int .u8 0, .int .u8 0, .int .u8 0, .int .i32 0], .bool false]) (by simp [results, Try.results28, go_sem, q0, q1, q2, q3, q4]) rfl ⟨?_, ?_⟩
          · rw [dec_not HE.out Hr.out HN.out]; rfl
          · exact h5
      · have HN : Hid ((v, n) ≠ (w, 0)) := Lib.hid (fun h => hn (congrArg Prod.snd h))
        have e1 : ((n : Int) == 0) = false := by rw [beq_eq_false_iff_ne]; omega
        have e2 : ((n : Int) != 0) = true := by rw [bne, e1]; rfl
        clear hn
        go_wp2_with fail
        have hq := five_at (At.mk a0 a1 a2 a3 a4) (.int .u8 0) (.int .u8 0) (.int .u8 0) (.int .u8 0) (.int .i32 0)
        have h5 := five w0 (.int .u8 0) (.int .u8 0) (.int .u8 0) (.int .u8 0) (.int .i32 0)
        clear a0 a1 a2 a3 a4 c0 c1 c2 c3 c4 f0
        generalize (((((w2.setCell ⟨W.heap.size, 0, none⟩ (.int .u8 0)).setCell ⟨W.heap.size, 1, none⟩ (.int .u8 0)).setCell ⟨W.heap.size, 2, none⟩ (.int .u8 0)).setCell ⟨W.heap.size, 3, none⟩ (.int .u8 0)).setCell ⟨W.heap.size, 4, none⟩ (.int .i32 0)) = U at *
        obtain ⟨q0, q1, q2, q3, q4⟩ := hq _ rfl
        refine bodyPost_ret (v := .tuple #[.agg #[.int .u8 0, .int .u8 0, .int .u8 0, .int .u8 0, .int .i32 0], .bool false]) (by simp [results, Try.results28, go_sem, q0, q1, q2, q3, q4]) rfl ⟨?_, ?_⟩
        · rw [dec_not HE.out Hr.out HN.out]; rfl
        · exact h5
    · have hc2 := decide_eq_false hC
      have hi2 := decide_eq_true (p := Is.hasImm O) (by unfold Is.hasImm; unfold Is.hasC at hC; omega)
      by_cases hu : Is.uns O
      · have hu2 := decide_eq_true hu
        have HE : Hid (Is.fields w = ⟨O, A, B, 0, M⟩) := Lib.hid (by rw [HF.out, if_neg hC, if_neg hC, Is.sign, if_pos hu])
        clear ho hC hu
        go_enter Try.func28, Try.ntmps28
        go_wp2_with fail
        refine (isOp_any _ _).mono ?_
        rintro e w1 ⟨rfl, rfl⟩
        rw [ho2]
        go_wp2_with fail
        refine (hasC_any _ _).mono ?_
        rintro e w1 ⟨rfl, rfl⟩
        rw [hc2]
        go_wp2_with fail
        refine (hasImm_any _ _).mono ?_
        rintro e w1 ⟨rfl, rfl⟩
        rw [hi2]
        go_wp2_with fail
        refine (uns_any _ _).mono ?_
        rintro e w1 ⟨rfl, rfl⟩
        rw [hu2]
        go_wp2_with fail
        refine (enc_any ⟨O, A, B, 0, M⟩ (by refine ⟨?_, ?_, ?_, ?_, ?_, ?_⟩ <;> simp only <;> omega) _).mono ?_
        rintro e w2 ⟨rfl, hb⟩
        have st := (two_new W Is.zero ⟨O, A, B, 0, M⟩ 49).below hb
        clear hb
        obtain ⟨⟨a0, a1, a2, a3, a4⟩, ⟨c0, c1, c2, c3, c4⟩, f0, s0, w0⟩ := st
        generalize hr : Is.enc ⟨O, A, B, 0, M⟩ = r
        obtain ⟨v, n⟩ := r
        have Hr := Lib.hid hr
        clear hr
        by_cases hn : n = 0
        · subst hn
          by_cases hv : v = w
          · subst hv
            go_wp2_with fail
            have hq := five_at (At.mk a0 a1 a2 a3 a4) (.int .u8 O) (.int .u8 A) (.int .u8 B) (.int .u8 0) (.int .i32 M)
            have h5 := five w0 (.int .u8 O) (.int .u8 A) (.int .u8 B) (.int .u8 0) (.int .i32 M)
            clear a0 a1 a2 a3 a4 c0 c1 c2 c3 c4 f0
            generalize (((((w2.setCell ⟨W.heap.size, 0, none⟩ (.int .u8 O)).setCell ⟨W.heap.size, 1, none⟩ (.int .u8 A)).setCell ⟨W.heap.size, 2, none⟩ (.int .u8 B)).setCell ⟨W.heap.size, 3, none⟩ (.int .u8 0)).setCell ⟨W.heap.size, 4, none⟩ (.int .i32 M)) = U at *
            obtain ⟨q0, q1, q2, q3, q4⟩ := hq _ rfl
            refine bodyPost_ret (v := .tuple #[.agg #[.int .u8 O, .int .u8 A, .int .u8 B, .int .u8 0, .int .i32 M], .bool true]) (by simp [results, Try.results28, go_sem, q0, q1, q2, q3, q4]) rfl ⟨?_, ?_⟩
            · rw [dec_yes HE.out Hr.out]; rfl
            · exact h5
          · have HN : Hid ((v, 0) ≠ (w, 0)) := Lib.hid (fun h => hv (congrArg Prod.fst h))
            have e1 : ((v : Int) == (w : Int)) = false := by rw [beq_eq_false_iff_ne]; omega
            have e2 : ((v : Int) != (w : Int)) = true := by rw [bne, e1]; rfl
            clear hv
            go_wp2_with fail
            have hq := five_at (At.mk a0 a1 a2 a3 a4) (.int .u8 0) (.int .u8 0) (.int .u8 0) (.int .u8 0) (.int .i32 0)
            have h5 := five w0 (.int .u8 0) (.int .u8 0) (.int .u8 0) (.int .u8 0) (.int .i32 0)
            clear a0 a1 a2 a3 a4 c0 c1 c2 c3 c4 f0
            generalize (((((w2.setCell ⟨W.heap.size, 0, none⟩ (.int .u8 0)).setCell ⟨W.heap.size, 1, none⟩ (.int .u8 0)).setCell ⟨W.heap.size, 2, none⟩ (.int .u8 0)).setCell ⟨W.heap.size, 3, none⟩ (.int .u8 0)).setCell ⟨W.heap.size, 4, none⟩ (.int .i32 0)) = U at *
            obtain ⟨q0, q1, q2, q3, q4⟩ := hq _ rfl
            refine bodyPost_ret (v := .tuple #[.agg #[.int .u8 0, .int .u8 0, .int .u8 0, .int .u8 0, .int .i32 0], .bool false]) (by simp [results, Try.results28, go_sem, q0, q1, q2, q3, q4]) rfl ⟨?_, ?_⟩
            · rw [dec_not HE.out Hr.out HN.out]; rfl
            · exact h5
        · have HN : Hid ((v, n) ≠ (w, 0)) := Lib.hid (fun h => hn (congrArg Prod.snd h))
          have e1 : ((n : Int) == 0) = false := by rw [beq_eq_false_iff_ne]; omega
          have e2 : ((n : Int) != 0) = true := by rw [bne, e1]; rfl
          clear hn
          go_wp2_with fail
          have hq := five_at (At.mk a0 a1 a2 a3 a4) (.int .u8 0) (.int .u8 0) (.int .u8 0) (.int .u8 0) (.int .i32 0)
          have h5 := five w0 (.int .u8 0) (.int .u8 0) (.int .u8 0) (.int .u8 0) (.int .i32 0)
          clear a0 a1 a2 a3 a4 c0 c1 c2 c3 c4 f0
          generalize (((((w2.setCell ⟨W.heap.size, 0, none⟩ (.int .u8 0)).setCell ⟨W.heap.size, 1, none⟩ (.int .u8 0)).setCell ⟨W.heap.size, 2, none⟩ (.int .u8 0)).setCell ⟨W.heap.size, 3, none⟩ (.int .u8 0)).setCell ⟨W.heap.size, 4, none⟩ (.int .i32 0)) = U at *
          obtain ⟨q0, q1, q2, q3, q4⟩ := hq _ rfl
          refine bodyPost_ret (v := .tuple #[.agg #[.int .u8 0, .int .u8 0, .int .u8 0, .int .u8 0, .int .i32 0], .bool false]) (by simp [results, Try.results28, go_sem, q0, q1, q2, q3, q4]) rfl ⟨?_, ?_⟩
          · rw [dec_not HE.out Hr.out HN.out]; rfl
          · exact h5
      · have hu2 := decide_eq_false hu
        obtain ⟨S, HE, l1, l2, eS⟩ : ∃ S : Int, Hid (Is.fields w = ⟨O, A, B, 0, S⟩) ∧ -32768 ≤ S ∧ S ≤ 32767 ∧ IntKind.i16.wrap (M : Int) = S := by
          by_cases hm : M ≤ 32767
          · exact ⟨M, Lib.hid (by rw [HF.out, if_neg hC, if_neg hC, Is.sign, if_neg hu, if_pos hm]), by omega, by omega, i16_lo hm⟩
          · exact ⟨(M : Int) - 65536, Lib.hid (by rw [HF.out, if_neg hC, if_neg hC, Is.sign, if_neg hu, if_neg hm]), by omega, by omega, i16_hi (by omega) (by omega)⟩
        clear ho hC hu
        go_enter Try.func28, Try.ntmps28
        go_wp2_with fail
        refine (isOp_any _ _).mono ?_
        rintro e w1 ⟨rfl, rfl⟩
        rw [ho2]
        go_wp2_with fail
        refine (hasC_any _ _).mono ?_
        rintro e w1 ⟨rfl, rfl⟩
        rw [hc2]
        go_wp2_with fail
        refine (hasImm_any _ _).mono ?_
        rintro e w1 ⟨rfl, rfl⟩
        rw [hi2]
        go_wp2_with fail
        refine (uns_any _ _).mono ?_
        rintro e w1 ⟨rfl, rfl⟩
        rw [hu2]
        go_wp2_with fail
        refine (enc_any ⟨O, A, B, 0, S⟩ (by refine ⟨?_, ?_, ?_, ?_, ?_, ?_⟩ <;> simp only <;> omega) _).mono ?_
        rintro e w2 ⟨rfl, hb⟩
        have st := (two_new W Is.zero ⟨O, A, B, 0, S⟩ 49).below hb
        clear hb
        obtain ⟨⟨a0, a1, a2, a3, a4⟩, ⟨c0, c1, c2, c3, c4⟩, f0, s0, w0⟩ := st
        generalize hr : Is.enc ⟨O, A, B, 0, S⟩ = r
        obtain ⟨v, n⟩ := r
        have Hr := Lib.hid hr
        clear hr
        by_cases hn : n = 0
        · subst hn
          by_cases hv : v = w
          · subst hv
            go_wp2_with fail
            have hq := five_at (At.mk a0 a1 a2 a3 a4) (.int .u8 O) (.int .u8 A) (.int .u8 B) (.int .u8 0) (.int .i32 S)
            have h5 := five w0 (.int .u8 O) (.int .u8 A) (.int .u8 B) (.int .u8 0) (.int .i32 S)
            clear a0 a1 a2 a3 a4 c0 c1 c2 c3 c4 f0
            generalize (((((w2.setCell ⟨W.heap.size, 0, none⟩ (.int .u8 O)).setCell ⟨W.heap.size, 1, none⟩ (.int .u8 A)).setCell ⟨W.heap.size, 2, none⟩ (.int .u8 B)).setCell ⟨W.heap.size, 3, none⟩ (.int .u8 0)).setCell ⟨W.heap.size, 4, none⟩ (.int .i32 S)) = U at *
            obtain ⟨q0, q1, q2, q3, q4⟩ := hq _ rfl
            refine bodyPost_ret (v := .tuple #[.agg #[.int .u8 O, .int .u8 A, .int .u8 B, .int .u8 0, .int .i32 S], .bool true]) (by simp [results, Try.results28, go_sem, q0, q1, q2, q3, q4]) rfl ⟨?_, ?_⟩
            · rw [dec_yes HE.out Hr.out]; rfl
            · exact h5
          · have HN : Hid ((v, 0) ≠ (w, 0)) := Lib.hid (fun h => hv (congrArg Prod.fst h))
            have e1 : ((v : Int) == (w : Int)) = false := by rw [beq_eq_false_iff_ne]; omega
            have e2 : ((v : Int) != (w : Int)) = true := by rw [bne, e1]; rfl
            clear hv
            go_wp2_with fail
            have hq := five_at (At.mk a0 a1 a2 a3 a4) (.int .u8 0) (.int .u8 0) (.int .u8 0) (.int .u8 0) (.int .i32 0)
            have h5 := five w0 (.int .u8 0) (.int .u8 0) (.int .u8 0) (.int .u8 0) (.int .i32 0)
            clear a0 a1 a2 a3 a4 c0 c1 c2 c3 c4 f0
            generalize (((((w2.setCell ⟨W.heap.size, 0, none⟩ (.int .u8 0)).setCell ⟨W.heap.size, 1, none⟩ (.int .u8 0)).setCell ⟨W.heap.size, 2, none⟩ (.int .u8 0)).setCell ⟨W.heap.size, 3, none⟩ (.int .u8 0)).setCell ⟨W.heap.size, 4, none⟩ (.int .i32 0)) = U at *
            obtain ⟨q0, q1, q2, q3, q4⟩ := hq _ rfl
            refine bodyPost_ret (v := .tuple #[.agg #[.int .u8 0, .int .u8 0, .int .u8 0, .int .u8 0, .int .i32 0], .bool false]) (by simp [results, Try.results28, go_sem, q0, q1, q2, q3, q4]) rfl ⟨?_, ?_⟩
            · rw [dec_not HE.out Hr.out HN.out]; rfl
            · exact h5
        · have HN : Hid ((v, n) ≠ (w, 0)) := Lib.hid (fun h => hn (congrArg Prod.snd h))
          have e1 : ((n : Int) == 0) = false := by rw [beq_eq_false_iff_ne]; omega
          have e2 : ((n : Int) != 0) = true := by rw [bne, e1]; rfl
          clear hn
          go_wp2_with fail
          have hq := five_at (At.mk a0 a1 a2 a3 a4) (.int .u8 0) (.int .u8 0) (.int .u8 0) (.int .u8 0) (.int .i32 0)
          have h5 := five w0 (.int .u8 0) (.int .u8 0) (.int .u8 0) (.int .u8 0) (.int .i32 0)
          clear a0 a1 a2 a3 a4 c0 c1 c2 c3 c4 f0
          generalize (((((w2.setCell ⟨W.heap.size, 0, none⟩ (.int .u8 0)).setCell ⟨W.heap.size, 1, none⟩ (.int .u8 0)).setCell ⟨W.heap.size, 2, none⟩ (.int .u8 0)).setCell ⟨W.heap.size, 3, none⟩ (.int .u8 0)).setCell ⟨W.heap.size, 4, none⟩ (.int .i32 0)) = U at *
          obtain ⟨q0, q1, q2, q3, q4⟩ := hq _ rfl
          refine bodyPost_ret (v := .tuple #[.agg #[.int .u8 0, .int .u8 0, .int .u8 0, .int .u8 0, .int .i32 0], .bool false]) (by simp [results, Try.results28, go_sem, q0, q1, q2, q3, q4]) rfl ⟨?_, ?_⟩
          · rw [dec_not HE.out Hr.out HN.out]; rfl
          · exact h5
  · have ho2 := decide_eq_false ho
    have HD : Hid (Is.dec w = (Is.zero, false)) := Lib.hid (dec_out (by rw [HF.out]; exact ho))
    clear ho
    go_enter Try.func28, Try.ntmps28
    go_wp2_with fail
    refine (isOp_any _ _).mono ?_
    rintro e w1 ⟨rfl, rfl⟩
    rw [ho2]
    go_wp2_with fail
    refine bodyPost_ret (v := .tuple #[.agg #[.int .u8 0, .int .u8 0, .int .u8 0, .int .u8 0, .int .i32 0], .bool false]) (by simp [results, Try.results28, go_sem]) rfl ⟨?_, ?_⟩
    · rw [HD.out]; rfl
    · exact (grow _ _).trans ((grow _ _).mono (by simp))
end Go.Proofs.Ytkbelpkmlmfedaa.Is2
