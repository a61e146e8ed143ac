/-
  THE WALK of the document's Pack.
-/
import Derived.Test.YtoggibooinhomaaLk
import Derived.Test.YtoggibooinhomaaLu
namespace Go.Proofs.Ytoggibooinhomaa
open Go.RowKit
set_option linter.unusedVariables false
set_option linter.unusedSimpArgs false
theorem conv_three (W : World) (g : Nat) (x y z : Int) (h0 : W.cell? ⟨g, 0, none⟩ = some (.int .u8 x)) (h1 : W.cell? ⟨g, 1, none⟩ = some (.int .u8 y)) (h2 : W.cell? ⟨g, 2, none⟩ = some (.int .u8 z)) :
    (convert 32 9 (.slice (some ⟨g, 0, none⟩) 3 3)).run Try.prog W = .ok (.string ⟨#[UInt8.ofNat x.toNat, UInt8.ofNat y.toNat, UInt8.ofNat z.toNat]⟩) W := by
  refine run_convert_bytes_arg _ 32 5 Try.underlying32 Try.underlying5 g 0 3 3 [x, y, z] rfl (fun i hi => ?_) 9 Try.underlying9
  match i, hi with
  | 0, _ => exact h0
  | 1, _ => exact h1
  | 2, _ => exact h2
theorem own3 (w : World) (x y z : Int) : Own (w.alloc (.cells #[.int .u8 x, .int .u8 y, .int .u8 z] 5)) w.heap.size 5 #[.int .u8 x, .int .u8 y, .int .u8 z] := al_own w [.cells #[.int .u8 x, .int .u8 y, .int .u8 z] 5] 0 rfl
theorem conv_three_new (W : World) (x y z : Int) : (convert 32 9 (.slice (some ⟨W.heap.size, 0, none⟩) 3 3)).run Try.prog (W.alloc (.cells #[.int .u8 x, .int .u8 y, .int .u8 z] 5)) = .ok (.string ⟨#[UInt8.ofNat x.toNat, UInt8.ofNat y.toNat, UInt8.ofNat z.toNat]⟩) (W.alloc (.cells #[.int .u8 x, .int .u8 y, .int .u8 z] 5)) :=
  conv_three _ _ x y z ((own3 W x y z).cell 0) ((own3 W x y z).cell 1) ((own3 W x y z).cell 2)
theorem conv_three_drew (W : World) (x y z : Int) : (convert 32 9 (.slice (some ⟨W.heap.size, 0, none⟩) 3 3)).run Try.prog (W.alloc (.cells #[.int .u8 x, .int .u8 y, .int .u8 z] 5)).drew = .ok (.string ⟨#[UInt8.ofNat x.toNat, UInt8.ofNat y.toNat, UInt8.ofNat z.toNat]⟩) (W.alloc (.cells #[.int .u8 x, .int .u8 y, .int .u8 z] 5)).drew :=
  conv_three _ _ x y z ((own3 W x y z).cell 0) ((own3 W x y z).cell 1) ((own3 W x y z).cell 2)
theorem conv_three_after {w w1 : World} {x y z : Int} (h : Below (w.alloc (.cells #[.int .u8 x, .int .u8 y, .int .u8 z] 5)).drew.heap.size (w.alloc (.cells #[.int .u8 x, .int .u8 y, .int .u8 z] 5)).drew w1) :
    (convert 32 9 (.slice (some ⟨w.heap.size, 0, none⟩) 3 3)).run Try.prog w1 = .ok (.string ⟨#[UInt8.ofNat x.toNat, UInt8.ofNat y.toNat, UInt8.ofNat z.toNat]⟩) w1 := by
  have o : Own w1 w.heap.size 5 #[.int .u8 x, .int .u8 y, .int .u8 z] := (h.block w.heap.size (own3 w x y z).lt).trans (own3 w x y z)
  exact conv_three _ _ x y z (o.cell 0) (o.cell 1) (o.cell 2)
theorem seg_snoc (l : List UInt8) (r i : Nat) (h : r ≤ i) (hi : i < l.length) : Lz.seg l r (i + 1) = Lz.seg l r i ++ (l.drop i).take 1 := by
  unfold Lz.seg
  rw [List.take_add, List.drop_append, show r - (l.take i).length = 0 from by simp; omega]
  simp
theorem seg_nil (l : List UInt8) (i : Nat) : Lz.seg l i i = [] := by unfold Lz.seg; exact List.drop_eq_nil_of_le (by simp; omega)
theorem ofL_append (a b : List UInt8) : ofL (a ++ b) = ofL a ++ ofL b := toL_inj (by rw [toL_append, toL_ofL, toL_ofL, toL_ofL])
set_option maxRecDepth 100000 in
set_option maxHeartbeats 2000000 in
theorem rpack_any (s : ByteArray) (w : World) (hs : s.size ≤ 10000) :
    Calls Try.prog 11 #[.string s] w fun e w' => e = .returned (.string (ofL (Lz.pack (toL s)))) ∧ Below w.heap.size w w' := by
  go_enter Try.func11, Try.ntmps11
  go_wp2_with fail
  go_loopw [3, 4, 5] (fun o p i wr => ∃ (z y : ByteArray) (rr ii : Nat), o = .string z ∧ p = .string y ∧ i = .int .i64 ii ∧ rr ≤ ii ∧ ii ≤ s.size ∧ Hid (toL y = Lz.seg (toL s) rr ii) ∧ Below w.heap.size w wr ∧ Hid (PkIs (toL s) (toL z) ii rr)) (fun _ _ i _ => s.size - (intOf i).toNat)
  case atStart => exact ⟨ByteArray.empty, ByteArray.empty, 0, 0, rfl, rfl, rfl, Nat.le_refl _, Nat.zero_le _, rfl, Below.refl _ _, rfl⟩
  case round =>
    obtain ⟨z, y, r, i, rfl, rfl, rfl, hri, hi, hy, hb, hP⟩ := hrel
    have hlen := pk_out hP.out
    rw [toL_len, toL_len] at hlen
    have hys : y.size = i - r := by rw [← toL_len, hy.out, Lz.seg_len _ _ _ hri (by rw [toL_len]; exact hi)]
    have yb : y.size ≤ 10000 := by omega
    have zb : z.size ≤ 20000 := by omega
    clear hlen
    by_cases c1 : i < s.size
    · by_cases c2 : (Lz.best (toL s) i).1 < 4
      · have HP := Lib.hid (pk_one hP.out (by rw [toL_len]; exact c1) c2)
        have HY : Hid (toL (y ++ s.extract i (i + 1)) = Lz.seg (toL s) r (i + 1)) := Lib.hid (by
          rw [toL_append, hy.out, toL_slice _ _ _ (by omega), seg_snoc _ _ _ hri (by rw [toL_len]; exact c1), show i + 1 - i = 1 from by omega])
        have bd := (Lz.bst_le (toL s) i (min i 65535))
        have hc := rbest_any s i wr (by omega) hi
        have hfar : (Lz.best (toL s) i).2 ≤ 65535 := by unfold Lz.best; omega
        clear hP hy hys bd
        generalize (Lz.best (toL s) i).1 = n at *
        generalize (Lz.best (toL s) i).2 = far at *
        go_wp2_with fail
        refine hc.mono ?_
        rintro e w2 ⟨rfl, hb2⟩
        go_wp2_with fail
        go_roundw
        case rel => exact ⟨z, _, r, i + 1, rfl, rfl, by go_num, by omega, by omega, HY, hb.trans (hb2.mono hb.size), HP⟩
        case measure => simp [intOf]; omega
      · obtain ⟨b1, b2, b3, b4, b5, -⟩ := Lz.best_ok _ _ c2
        rw [toL_len] at b2
        have hn4 : 4 ≤ (Lz.best (toL s) i).1 := by omega
        have HP := Lib.hid (pk_copy hP.out (by rw [toL_len]; exact c1) c2)
        have hc := rbest_any s i wr (by omega) hi
        have hrun := fun w => rrun_any y w (by omega)
        rw [hy.out] at hrun
        have rl : (ofL (Lz.run (Lz.seg (toL s) r i))).size ≤ 20000 := by
          rw [ofL_size, ← hy.out, Lz.run_length _ _ (Nat.le_refl _), toL_len]; omega
        clear hP hy hys c2
        generalize (Lz.best (toL s) i).1 = n at *
        generalize (Lz.best (toL s) i).2 = far at *
        generalize hR : Lz.run (Lz.seg (toL s) r i) = R at *
        clear hR
        have HP2 : Hid (PkIs (toL s) (toL (z ++ ofL R ++ ⟨#[UInt8.ofNat n + 124, UInt8.ofNat (far % 256), UInt8.ofNat (far / 256)]⟩)) (i + n) (i + n)) := Lib.hid (by
          have e : UInt8.ofNat n + 124 = UInt8.ofNat (n + 124) := by rw [UInt8.ofNat_add]; rfl
          rw [toL_append, toL_append, toL_ofL, e]
          exact HP.out)
        clear HP
        have tm : ((far : Int)).tmod 256 = (far : Int) % 256 := Int.tmod_eq_emod_of_nonneg (by omega)
        have td : ((far : Int)).tdiv 256 = (far : Int) / 256 := Int.tdiv_eq_ediv_of_nonneg (by omega)
        have w0 : IntKind.i64.wrap ((n : Int) + 124) = (n : Int) + 124 := IntWalk.i64_in _ (by omega)
        have w1 : IntKind.i64.wrap ((far : Int) % 256) = (far : Int) % 256 := IntWalk.i64_in _ (by omega)
        have w2 : IntKind.i64.wrap ((far : Int) / 256) = (far : Int) / 256 := IntWalk.i64_in _ (by omega)
        have x0 : IntKind.u8.wrap ((n : Int) + 124) = (n : Int) + 124 := by rw [IntKind.wrap_u8']; omega
        have x1 : IntKind.u8.wrap ((far : Int) % 256) = (far : Int) % 256 := by rw [IntKind.wrap_u8']; omega
        have x2 : IntKind.u8.wrap ((far : Int) / 256) = (far : Int) / 256 := by rw [IntKind.wrap_u8']; omega
        have HR := Lib.hid hrun
        clear hrun
        go_wp2_with fail
        refine hc.mono ?_
        rintro e w2 ⟨rfl, hb2⟩
        have hb3 := hb.trans (hb2.mono hb.size)
        clear hb hb2 hc
        have cv := conv_three_new
        have cw := conv_three_drew
        go_wp2_with fail
        go_region_with (go_at_call 17; refine (HR.out _).mono ?_; rintro e w1 ⟨rfl, hw1⟩; try (have cz := conv_three_after hw1))
        all_goals
          go_wp2_with fail
          go_roundw
        all_goals first
          | (case measure => simp [intOf]; omega)
          | (case rel =>
              have sz := hw1.size
              refine ⟨_, _, i + n, i + n, rfl, rfl, by go_num, Nat.le_refl _, b2, Lib.hid (seg_nil _ _).symm, ?_, HP2⟩
              first
                | exact ((hb3.alloc hb3.size _).drew).trans (hw1.mono (Nat.le_trans hb3.size (by simp)))
                | exact ((hb3.drew).trans (hw1.mono hb3.size)).alloc (Nat.le_trans hb3.size sz) _)
    · have HE : Hid (z ++ ofL (Lz.run (toL y)) = ofL (Lz.pack (toL s))) := Lib.hid (toL_inj (by
        rw [toL_append, toL_ofL, toL_ofL, ← pk_end hP.out (by rw [toL_len]; omega), hy.out]
        congr 2
        unfold Lz.seg
        rw [List.take_of_length_le (by rw [toL_len]; omega)]))
      have rl : (ofL (Lz.run (toL y))).size ≤ 20000 := by
        rw [ofL_size, Lz.run_length _ _ (Nat.le_refl _), toL_len]; omega
      have hrun := rrun_any y wr (by omega)
      clear hP hy
      generalize Lz.run (toL y) = R at *
      go_wp2_with fail
      refine hrun.mono ?_
      rintro e w1 ⟨rfl, hb1⟩
      go_wp2_with fail
      go_ret
      exact ⟨rstr HE.out, hb.trans (hb1.mono hb.size)⟩
end Go.Proofs.Ytoggibooinhomaa
