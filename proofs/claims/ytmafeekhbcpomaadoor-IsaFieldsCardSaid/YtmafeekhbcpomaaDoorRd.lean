/-
  THE WALK of the document's Dec.
-/
import Derived.Test.YtmafeekhbcpomaaDoorRe
import Derived.Test.YtmafeekhbcpomaaDoorDe
namespace Go.Proofs.YtmafeekhbcpomaaDoor
open Go.RowKit
set_option linter.unusedVariables false
set_option linter.unusedSimpArgs false
def DecBy (w : Nat) (x : Is.Ins) : Prop := Is.fields w = x ∨ (¬ Is.isOp x.op ∧ ¬ Is.isOp (Is.fields w).op)
theorem decb_yes {w : Nat} {x : Is.Ins} (h : DecBy w x) (k : Is.enc x = (w, 0)) : Is.dec w = (x, true) := by
  rcases h with h | h
  · exact dec_yes h k
  · exact absurd (Is.enc_ok k).1 h.1
theorem decb_not {w : Nat} {x : Is.Ins} {r : Nat × Nat} (h : DecBy w x) (k : Is.enc x = r) (hn : r ≠ (w, 0)) : Is.dec w = (Is.zero, false) := by
  rcases h with h | h
  · exact dec_not h k hn
  · exact dec_out h.2
theorem decby {w O A B C M : Nat} (HF : Is.fields w = ⟨O, A, B, if Is.hasC O then C else 0, if Is.hasC O then 0 else Is.sign O M⟩) (hC : form O ≠ 1) : DecBy w ⟨O, A, B, 0, Is.sign O M⟩ := by
  by_cases ho : Is.isOp O
  · left
    have hc : ¬ Is.hasC O := by
      have := form_is O; unfold Is.hasC; unfold Is.isOp at *; omega
    rw [HF, if_neg hc, if_neg hc]
  · right
    exact ⟨ho, by rw [HF]; exact ho⟩
set_option maxRecDepth 100000 in
set_option maxHeartbeats 8000000 in
theorem rdec_any (w : Nat) (hw : w < 4294967296) (W : World) :
    Calls Tryd.prog 14 #[.int .u32 w] W fun e W' => e = .returned (.tuple #[.agg (ic (Is.dec w).1), .bool (Is.dec w).2]) ∧ Below W.heap.size W W' := by
  obtain ⟨O, hO⟩ : ∃ O, O = w / 67108864 := ⟨_, rfl⟩
  obtain ⟨A, hA⟩ : ∃ A, A = w / 4194304 % 16 := ⟨_, rfl⟩
  obtain ⟨B, hB⟩ : ∃ B, B = w / 262144 % 16 := ⟨_, rfl⟩
  obtain ⟨C, hC⟩ : ∃ C, C = w / 16384 % 16 := ⟨_, rfl⟩
  obtain ⟨M, hM⟩ : ∃ M, M = w % 65536 := ⟨_, rfl⟩
  have eO : (w : Int) / 67108864 = (O : Int) := by omega
  have eA : (w : Int) / 4194304 % 16 = (A : Int) := by omega
  have eB : (w : Int) / 262144 % 16 = (B : Int) := by omega
  have eC : (w : Int) / 16384 % 16 = (C : Int) := by omega
  have lO : (O : Int) < 64 := by omega
  have lA : (A : Int) < 16 := by omega
  have lB : (B : Int) < 16 := by omega
  have lC : (C : Int) < 16 := by omega
  have b1 : (w : Int) < 4294967296 := by omega
  have eM : (w : Int) % 65536 = (M : Int) := by omega
  have lM : (M : Int) < 65536 := by omega
  have HF : Hid (Is.fields w = ⟨O, A, B, if Is.hasC O then C else 0, if Is.hasC O then 0 else Is.sign O M⟩) := Lib.hid (by unfold Is.fields; rw [hO, hA, hB, hC, hM])
  clear hO hA hB hC hM hw
  have hfo := fun wr => form_any O wr
  by_cases hf : form O = 1
  · have HE : Hid (DecBy w ⟨O, A, B, C, 0⟩) := Lib.hid (.inl (by
      have hc : Is.hasC O := by
        have := form_is O; unfold Is.hasC; omega
      rw [HF.out, if_pos hc, if_pos hc]))
    rw [hf] at hfo
    clear hf
    go_enter Tryd.func14, Tryd.ntmps14
    go_wp2_with fail
    refine (hfo _).mono ?_
    rintro e w1 ⟨rfl, rfl⟩
    clear hfo
    go_wp2_with fail
    refine (renc_any ⟨O, A, B, C, 0⟩ (by refine ⟨?_, ?_, ?_, ?_, ?_, ?_⟩ <;> simp only <;> omega) _).mono ?_
    rintro e w2 ⟨rfl, hb⟩
    have st := (two_new W Is.zero ⟨O, A, B, C, 0⟩ 23).below hb
    clear hb
    obtain ⟨⟨a0, a1, a2, a3, a4⟩, ⟨c0, c1, c2, c3, c4⟩, f0, s0, w0⟩ := st
    generalize hr : Is.enc ⟨O, A, B, C, 0⟩ = r
    obtain ⟨v, n⟩ := r
    have Hr := Lib.hid hr
    clear hr
    by_cases hn : n = 0
    · subst hn
      by_cases hv : v = w
      · subst hv
        go_wp2_with fail
        have hq := five_at (At.mk a0 a1 a2 a3 a4) (.int .u8 O) (.int .u8 A) (.int .u8 B) (.int .u8 C) (.int .i32 0)
        have h5 := five w0 (.int .u8 O) (.int .u8 A) (.int .u8 B) (.int .u8 C) (.int .i32 0)
        clear a0 a1 a2 a3 a4 c0 c1 c2 c3 c4 f0
        generalize (((((w2.setCell ⟨W.heap.size, 0, none⟩ (.int .u8 O)).setCell ⟨W.heap.size, 1, none⟩ (.int .u8 A)).setCell ⟨W.heap.size, 2, none⟩ (.int .u8 B)).setCell ⟨W.heap.size, 3, none⟩ (.int .u8 C)).setCell ⟨W.heap.size, 4, none⟩ (.int .i32 0)) = U at *
        obtain ⟨q0, q1, q2, q3, q4⟩ := hq _ rfl
        refine bodyPost_ret (v := .tuple #[.agg #[.int .u8 O, .int .u8 A, .int .u8 B, .int .u8 C, .int .i32 0], .bool true]) (by simp [results, Tryd.results14, go_sem, q0, q1, q2, q3, q4]) rfl ⟨?_, ?_⟩
        · rw [decb_yes HE.out Hr.out]; rfl
        · exact h5
      · have HN : Hid ((v, 0) ≠ (w, 0)) := Lib.hid (fun h => hv (congrArg Prod.fst h))
        have e1 : ((v : Int) == (w : Int)) = false := by rw [beq_eq_false_iff_ne]; omega
        have e2 : ((v : Int) != (w : Int)) = true := by rw [bne, e1]; rfl
        clear hv
        go_wp2_with fail
        have hq := five_at (At.mk a0 a1 a2 a3 a4) (.int .u8 0) (.int .u8 0) (.int .u8 0) (.int .u8 0) (.int .i32 0)
        have h5 := five w0 (.int .u8 0) (.int .u8 0) (.int .u8 0) (.int .u8 0) (.int .i32 0)
        clear a0 a1 a2 a3 a4 c0 c1 c2 c3 c4 f0
        generalize (((((w2.setCell ⟨W.heap.size, 0, none⟩ (.int .u8 0)).setCell ⟨W.heap.size, 1, none⟩ (.int .u8 0)).setCell ⟨W.heap.size, 2, none⟩ (.int .u8 0)).setCell ⟨W.heap.size, 3, none⟩ (.int .u8 0)).setCell ⟨W.heap.size, 4, none⟩ (.int .i32 0)) = U at *
        obtain ⟨q0, q1, q2, q3, q4⟩ := hq _ rfl
        refine bodyPost_ret (v := .tuple #[.agg #[.int .u8 0, .int .u8 0, .int .u8 0, .int .u8 0, .int .i32 0], .bool false]) (by simp [results, Tryd.results14, go_sem, q0, q1, q2, q3, q4]) rfl ⟨?_, ?_⟩
        · rw [decb_not HE.out Hr.out HN.out]; rfl
        · exact h5
    · have HN : Hid ((v, n) ≠ (w, 0)) := Lib.hid (fun h => hn (congrArg Prod.snd h))
      have e1 : ((n : Int) == 0) = false := by rw [beq_eq_false_iff_ne]; omega
      have e2 : ((n : Int) != 0) = true := by rw [bne, e1]; rfl
      clear hn
      go_wp2_with fail
      have hq := five_at (At.mk a0 a1 a2 a3 a4) (.int .u8 0) (.int .u8 0) (.int .u8 0) (.int .u8 0) (.int .i32 0)
      have h5 := five w0 (.int .u8 0) (.int .u8 0) (.int .u8 0) (.int .u8 0) (.int .i32 0)
      clear a0 a1 a2 a3 a4 c0 c1 c2 c3 c4 f0
      generalize (((((w2.setCell ⟨W.heap.size, 0, none⟩ (.int .u8 0)).setCell ⟨W.heap.size, 1, none⟩ (.int .u8 0)).setCell ⟨W.heap.size, 2, none⟩ (.int .u8 0)).setCell ⟨W.heap.size, 3, none⟩ (.int .u8 0)).setCell ⟨W.heap.size, 4, none⟩ (.int .i32 0)) = U at *
      obtain ⟨q0, q1, q2, q3, q4⟩ := hq _ rfl
      refine bodyPost_ret (v := .tuple #[.agg #[.int .u8 0, .int .u8 0, .int .u8 0, .int .u8 0, .int .i32 0], .bool false]) (by simp [results, Tryd.results14, go_sem, q0, q1, q2, q3, q4]) rfl ⟨?_, ?_⟩
      · rw [decb_not HE.out Hr.out HN.out]; rfl
      · exact h5
  · have HE := decby HF.out hf
    have f1 : ((form O : Int) == 1) = false := by rw [beq_eq_false_iff_ne]; omega
    generalize form O = f at *
    clear hf
    by_cases hm : M ≤ 32767
    · have d1 : (M : Int) ≤ 32767 := by omega
      have d2 : decide (32767 < (M : Int)) = false := by rw [decide_eq_false_iff_not]; omega
      have es : Is.sign O M = M := by unfold Is.sign; split <;> first | rfl | (rw [if_pos hm])
      rw [es] at HE
      replace HE := Lib.hid HE
      clear es hm
      go_enter Tryd.func14, Tryd.ntmps14
      go_wp2_with fail
      refine (hfo _).mono ?_
      rintro e w1 ⟨rfl, rfl⟩
      clear hfo
      go_wp2_with fail
      refine (renc_any ⟨O, A, B, 0, M⟩ (by refine ⟨?_, ?_, ?_, ?_, ?_, ?_⟩ <;> simp only <;> omega) _).mono ?_
      rintro e w2 ⟨rfl, hb⟩
      have st := (two_new W Is.zero ⟨O, A, B, 0, M⟩ 23).below hb
      clear hb
      obtain ⟨⟨a0, a1, a2, a3, a4⟩, ⟨c0, c1, c2, c3, c4⟩, f0, s0, w0⟩ := st
      generalize hr : Is.enc ⟨O, A, B, 0, M⟩ = r
      obtain ⟨v, n⟩ := r
      have Hr := Lib.hid hr
      clear hr
      by_cases hn : n = 0
      · subst hn
        by_cases hv : v = w
        · subst hv
          go_wp2_with fail
          have hq := five_at (At.mk a0 a1 a2 a3 a4) (.int .u8 O) (.int .u8 A) (.int .u8 B) (.int .u8 0) (.int .i32 M)
          have h5 := five w0 (.int .u8 O) (.int .u8 A) (.int .u8 B) (.int .u8 0) (.int .i32 M)
          clear a0 a1 a2 a3 a4 c0 c1 c2 c3 c4 f0
          generalize (((((w2.setCell ⟨W.heap.size, 0, none⟩ (.int .u8 O)).setCell ⟨W.heap.size, 1, none⟩ (.int .u8 A)).setCell ⟨W.heap.size, 2, none⟩ (.int .u8 B)).setCell ⟨W.heap.size, 3, none⟩ (.int .u8 0)).setCell ⟨W.heap.size, 4, none⟩ (.int .i32 M)) = U at *
          obtain ⟨q0, q1, q2, q3, q4⟩ := hq _ rfl
          refine bodyPost_ret (v := .tuple #[.agg #[.int .u8 O, .int .u8 A, .int .u8 B, .int .u8 0, .int .i32 M], .bool true]) (by simp [results, Tryd.results14, go_sem, q0, q1, q2, q3, q4]) rfl ⟨?_, ?_⟩
          · rw [decb_yes HE.out Hr.out]; rfl
          · exact h5
        · have HN : Hid ((v, 0) ≠ (w, 0)) := Lib.hid (fun h => hv (congrArg Prod.fst h))
          have e1 : ((v : Int) == (w : Int)) = false := by rw [beq_eq_false_iff_ne]; omega
          have e2 : ((v : Int) != (w : Int)) = true := by rw [bne, e1]; rfl
          clear hv
          go_wp2_with fail
          have hq := five_at (At.mk a0 a1 a2 a3 a4) (.int .u8 0) (.int .u8 0) (.int .u8 0) (.int .u8 0) (.int .i32 0)
          have h5 := five w0 (.int .u8 0) (.int .u8 0) (.int .u8 0) (.int .u8 0) (.int .i32 0)
          clear a0 a1 a2 a3 a4 c0 c1 c2 c3 c4 f0
          generalize (((((w2.setCell ⟨W.heap.size, 0, none⟩ (.int .u8 0)).setCell ⟨W.heap.size, 1, none⟩ (.int .u8 0)).setCell ⟨W.heap.size, 2, none⟩ (.int .u8 0)).setCell ⟨W.heap.size, 3, none⟩ (.int .u8 0)).setCell ⟨W.heap.size, 4, none⟩ (.int .i32 0)) = U at *
          obtain ⟨q0, q1, q2, q3, q4⟩ := hq _ rfl
          refine bodyPost_ret (v := .tuple #[.agg #[.int .u8 0, .int .u8 0, .int .u8 0, .int .u8 0, .int .i32 0], .bool false]) (by simp [results, Tryd.results14, go_sem, q0, q1, q2, q3, q4]) rfl ⟨?_, ?_⟩
          · rw [decb_not HE.out Hr.out HN.out]; rfl
          · exact h5
      · have HN : Hid ((v, n) ≠ (w, 0)) := Lib.hid (fun h => hn (congrArg Prod.snd h))
        have e1 : ((n : Int) == 0) = false := by rw [beq_eq_false_iff_ne]; omega
        have e2 : ((n : Int) != 0) = true := by rw [bne, e1]; rfl
        clear hn
        go_wp2_with fail
        have hq := five_at (At.mk a0 a1 a2 a3 a4) (.int .u8 0) (.int .u8 0) (.int .u8 0) (.int .u8 0) (.int .i32 0)
        have h5 := five w0 (.int .u8 0) (.int .u8 0) (.int .u8 0) (.int .u8 0) (.int .i32 0)
        clear a0 a1 a2 a3 a4 c0 c1 c2 c3 c4 f0
        generalize (((((w2.setCell ⟨W.heap.size, 0, none⟩ (.int .u8 0)).setCell ⟨W.heap.size, 1, none⟩ (.int .u8 0)).setCell ⟨W.heap.size, 2, none⟩ (.int .u8 0)).setCell ⟨W.heap.size, 3, none⟩ (.int .u8 0)).setCell ⟨W.heap.size, 4, none⟩ (.int .i32 0)) = U at *
        obtain ⟨q0, q1, q2, q3, q4⟩ := hq _ rfl
        refine bodyPost_ret (v := .tuple #[.agg #[.int .u8 0, .int .u8 0, .int .u8 0, .int .u8 0, .int .i32 0], .bool false]) (by simp [results, Tryd.results14, go_sem, q0, q1, q2, q3, q4]) rfl ⟨?_, ?_⟩
        · rw [decb_not HE.out Hr.out HN.out]; rfl
        · exact h5
    · have d1 : 32767 < (M : Int) := by omega
      by_cases hu : Is.uns O
      · have hu2 := decide_eq_true hu
        have es : Is.sign O M = M := by unfold Is.sign; rw [if_pos hu]
        rw [es] at HE
        replace HE := Lib.hid HE
        clear es hm hu
        go_enter Tryd.func14, Tryd.ntmps14
        go_wp2_with fail
        refine (hfo _).mono ?_
        rintro e w1 ⟨rfl, rfl⟩
        clear hfo
        go_wp2_with fail
        refine (plain_any _ _).mono ?_
        rintro e w1 ⟨rfl, rfl⟩
        rw [hu2]
        go_wp2_with fail
        refine (renc_any ⟨O, A, B, 0, M⟩ (by refine ⟨?_, ?_, ?_, ?_, ?_, ?_⟩ <;> simp only <;> omega) _).mono ?_
        rintro e w2 ⟨rfl, hb⟩
        have st := (two_new W Is.zero ⟨O, A, B, 0, M⟩ 23).below hb
        clear hb
        obtain ⟨⟨a0, a1, a2, a3, a4⟩, ⟨c0, c1, c2, c3, c4⟩, f0, s0, w0⟩ := st
        generalize hr : Is.enc ⟨O, A, B, 0, M⟩ = r
        obtain ⟨v, n⟩ := r
        have Hr := Lib.hid hr
        clear hr
        by_cases hn : n = 0
        · subst hn
          by_cases hv : v = w
          · subst hv
            go_wp2_with fail
            have hq := five_at (At.mk a0 a1 a2 a3 a4) (.int .u8 O) (.int .u8 A) (.int .u8 B) (.int .u8 0) (.int .i32 M)
            have h5 := five w0 (.int .u8 O) (.int .u8 A) (.int .u8 B) (.int .u8 0) (.int .i32 M)
            clear a0 a1 a2 a3 a4 c0 c1 c2 c3 c4 f0
            generalize (((((w2.setCell ⟨W.heap.size, 0, none⟩ (.int .u8 O)).setCell ⟨W.heap.size, 1, none⟩ (.int .u8 A)).setCell ⟨W.heap.size, 2, none⟩ (.int .u8 B)).setCell ⟨W.heap.size, 3, none⟩ (.int .u8 0)).setCell ⟨W.heap.size, 4, none⟩ (.int .i32 M)) = U at *
            obtain ⟨q0, q1, q2, q3, q4⟩ := hq _ rfl
            refine bodyPost_ret (v := .tuple #[.agg #[.int .u8 O, .int .u8 A, .int .u8 B, .int .u8 0, .int .i32 M], .bool true]) (by simp [results, Tryd.results14, go_sem, q0, q1, q2, q3, q4]) rfl ⟨?_, ?_⟩
            · rw [decb_yes HE.out Hr.out]; rfl
            · exact h5
          · have HN : Hid ((v, 0) ≠ (w, 0)) := Lib.hid (fun h => hv (congrArg Prod.fst h))
            have e1 : ((v : Int) == (w : Int)) = false := by rw [beq_eq_false_iff_ne]; omega
            have e2 : ((v : Int) != (w : Int)) = true := by rw [bne, e1]; rfl
            clear hv
            go_wp2_with fail
            have hq := five_at (At.mk a0 a1 a2 a3 a4) (.int .u8 0) (.int .u8 0) (.int .u8 0) (.int .u8 0) (.int .i32 0)
            have h5 := five w0 (.int .u8 0) (.int .u8 0) (.int .u8 0) (.int .u8 0) (.int .i32 0)
            clear a0 a1 a2 a3 a4 c0 c1 c2 c3 c4 f0
            generalize (((((w2.setCell ⟨W.heap.size, 0, none⟩ (.int .u8 0)).setCell ⟨W.heap.size, 1, none⟩ (.int .u8 0)).setCell ⟨W.heap.size, 2, none⟩ (.int .u8 0)).setCell ⟨W.heap.size, 3, none⟩ (.int .u8 0)).setCell ⟨W.heap.size, 4, none⟩ (.int .i32 0)) = U at *
            obtain ⟨q0, q1, q2, q3, q4⟩ := hq _ rfl
            refine bodyPost_ret (v := .tuple #[.agg #[.int .u8 0, .int .u8 0, .int .u8 0, .int .u8 0, .int .i32 0], .bool false]) (by simp [results, Tryd.results14, go_sem, q0, q1, q2, q3, q4]) rfl ⟨?_, ?_⟩
            · rw [decb_not HE.out Hr.out HN.out]; rfl
            · exact h5
        · have HN : Hid ((v, n) ≠ (w, 0)) := Lib.hid (fun h => hn (congrArg Prod.snd h))
          have e1 : ((n : Int) == 0) = false := by rw [beq_eq_false_iff_ne]; omega
          have e2 : ((n : Int) != 0) = true := by rw [bne, e1]; rfl
          clear hn
          go_wp2_with fail
          have hq := five_at (At.mk a0 a1 a2 a3 a4) (.int .u8 0) (.int .u8 0) (.int .u8 0) (.int .u8 0) (.int .i32 0)
          have h5 := five w0 (.int .u8 0) (.int .u8 0) (.int .u8 0) (.int .u8 0) (.int .i32 0)
          clear a0 a1 a2 a3 a4 c0 c1 c2 c3 c4 f0
          generalize (((((w2.setCell ⟨W.heap.size, 0, none⟩ (.int .u8 0)).setCell ⟨W.heap.size, 1, none⟩ (.int .u8 0)).setCell ⟨W.heap.size, 2, none⟩ (.int .u8 0)).setCell ⟨W.heap.size, 3, none⟩ (.int .u8 0)).setCell ⟨W.heap.size, 4, none⟩ (.int .i32 0)) = U at *
          obtain ⟨q0, q1, q2, q3, q4⟩ := hq _ rfl
          refine bodyPost_ret (v := .tuple #[.agg #[.int .u8 0, .int .u8 0, .int .u8 0, .int .u8 0, .int .i32 0], .bool false]) (by simp [results, Tryd.results14, go_sem, q0, q1, q2, q3, q4]) rfl ⟨?_, ?_⟩
          · rw [decb_not HE.out Hr.out HN.out]; rfl
          · exact h5
      · have hu2 := decide_eq_false hu
        have es : Is.sign O M = (M : Int) - 65536 := by unfold Is.sign; rw [if_neg hu, if_neg hm]
        rw [es] at HE
        replace HE := Lib.hid HE
        clear es hm hu
        go_enter Tryd.func14, Tryd.ntmps14
        go_wp2_with fail
        refine (hfo _).mono ?_
        rintro e w1 ⟨rfl, rfl⟩
        clear hfo
        go_wp2_with fail
        refine (plain_any _ _).mono ?_
        rintro e w1 ⟨rfl, rfl⟩
        rw [hu2]
        go_wp2_with fail
        refine (renc_any ⟨O, A, B, 0, (M : Int) - 65536⟩ (by refine ⟨?_, ?_, ?_, ?_, ?_, ?_⟩ <;> simp only <;> omega) _).mono ?_
        rintro e w2 ⟨rfl, hb⟩
        have st := (two_new W Is.zero ⟨O, A, B, 0, (M : Int) - 65536⟩ 23).below hb
        clear hb
        obtain ⟨⟨a0, a1, a2, a3, a4⟩, ⟨c0, c1, c2, c3, c4⟩, f0, s0, w0⟩ := st
        generalize hr : Is.enc ⟨O, A, B, 0, (M : Int) - 65536⟩ = r
        obtain ⟨v, n⟩ := r
        have Hr := Lib.hid hr
        clear hr
        by_cases hn : n = 0
        · subst hn
          by_cases hv : v = w
          · subst hv
            go_wp2_with fail
            have hq := five_at (At.mk a0 a1 a2 a3 a4) (.int .u8 O) (.int .u8 A) (.int .u8 B) (.int .u8 0) (.int .i32 ((M : Int) - 65536))
            have h5 := five w0 (.int .u8 O) (.int .u8 A) (.int .u8 B) (.int .u8 0) (.int .i32 ((M : Int) - 65536))
            clear a0 a1 a2 a3 a4 c0 c1 c2 c3 c4 f0
            generalize (((((w2.setCell ⟨W.heap.size, 0, none⟩ (.int .u8 O)).setCell ⟨W.heap.size, 1, none⟩ (.int .u8 A)).setCell ⟨W.heap.size, 2, none⟩ (.int .u8 B)).setCell ⟨W.heap.size, 3, none⟩ (.int .u8 0)).setCell ⟨W.heap.size, 4, none⟩ (.int .i32 ((M : Int) - 65536))) = U at *
            obtain ⟨q0, q1, q2, q3, q4⟩ := hq _ rfl
            refine bodyPost_ret (v := .tuple #[.agg #[.int .u8 O, .int .u8 A, .int .u8 B, .int .u8 0, .int .i32 ((M : Int) - 65536)], .bool true]) (by simp [results, Tryd.results14, go_sem, q0, q1, q2, q3, q4]) rfl ⟨?_, ?_⟩
            · rw [decb_yes HE.out Hr.out]; rfl
            · exact h5
          · have HN : Hid ((v, 0) ≠ (w, 0)) := Lib.hid (fun h => hv (congrArg Prod.fst h))
            have e1 : ((v : Int) == (w : Int)) = false := by rw [beq_eq_false_iff_ne]; omega
            have e2 : ((v : Int) != (w : Int)) = true := by rw [bne, e1]; rfl
            clear hv
            go_wp2_with fail
            have hq := five_at (At.mk a0 a1 a2 a3 a4) (.int .u8 0) (.int .u8 0) (.int .u8 0) (.int .u8 0) (.int .i32 0)
            have h5 := five w0 (.int .u8 0) (.int .u8 0) (.int .u8 0) (.int .u8 0) (.int .i32 0)
            clear a0 a1 a2 a3 a4 c0 c1 c2 c3 c4 f0
            generalize (((((w2.setCell ⟨W.heap.size, 0, none⟩ (.int .u8 0)).setCell ⟨W.heap.size, 1, none⟩ (.int .u8 0)).setCell ⟨W.heap.size, 2, none⟩ (.int .u8 0)).setCell ⟨W.heap.size, 3, none⟩ (.int .u8 0)).setCell ⟨W.heap.size, 4, none⟩ (.int .i32 0)) = U at *
            obtain ⟨q0, q1, q2, q3, q4⟩ := hq _ rfl
            refine bodyPost_ret (v := .tuple #[.agg #[.int .u8 0, .int .u8 0, .int .u8 0, .int .u8 0, .int .i32 0], .bool false]) (by simp [results, Tryd.results14, go_sem, q0, q1, q2, q3, q4]) rfl ⟨?_, ?_⟩
            · rw [decb_not HE.out Hr.out HN.out]; rfl
            · exact h5
        · have HN : Hid ((v, n) ≠ (w, 0)) := Lib.hid (fun h => hn (congrArg Prod.snd h))
          have e1 : ((n : Int) == 0) = false := by rw [beq_eq_false_iff_ne]; omega
          have e2 : ((n : Int) != 0) = true := by rw [bne, e1]; rfl
          clear hn
          go_wp2_with fail
          have hq := five_at (At.mk a0 a1 a2 a3 a4) (.int .u8 0) (.int .u8 0) (.int .u8 0) (.int .u8 0) (.int .i32 0)
          have h5 := five w0 (.int .u8 0) (.int .u8 0) (.int .u8 0) (.int .u8 0) (.int .i32 0)
          clear a0 a1 a2 a3 a4 c0 c1 c2 c3 c4 f0
          generalize (((((w2.setCell ⟨W.heap.size, 0, none⟩ (.int .u8 0)).setCell ⟨W.heap.size, 1, none⟩ (.int .u8 0)).setCell ⟨W.heap.size, 2, none⟩ (.int .u8 0)).setCell ⟨W.heap.size, 3, none⟩ (.int .u8 0)).setCell ⟨W.heap.size, 4, none⟩ (.int .i32 0)) = U at *
          obtain ⟨q0, q1, q2, q3, q4⟩ := hq _ rfl
          refine bodyPost_ret (v := .tuple #[.agg #[.int .u8 0, .int .u8 0, .int .u8 0, .int .u8 0, .int .i32 0], .bool false]) (by simp [results, Tryd.results14, go_sem, q0, q1, q2, q3, q4]) rfl ⟨?_, ?_⟩
          · rw [decb_not HE.out Hr.out HN.out]; rfl
          · exact h5
end Go.Proofs.YtmafeekhbcpomaaDoor
