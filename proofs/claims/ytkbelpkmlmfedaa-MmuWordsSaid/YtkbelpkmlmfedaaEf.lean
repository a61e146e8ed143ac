/-
  THE WALK of the code's Of: the program of a file.
-/
import Derived.Test.YtkbelpkmlmfedaaEw
import Derived.StillTailTactics
import Derived.Deep.CutRange
namespace Go.Proofs.Ytkbelpkmlmfedaa
set_option linter.unusedVariables false
set_option maxRecDepth 100000
set_option linter.unusedSimpArgs false
open Go.RowKit
namespace Xe
open _root_.Go.Proofs.Ytkbelpkmlmfedaa.Nm
/-- no program -/
def z0 : Xv := ⟨none, 0, 0, ⟨#[]⟩, 0, 0⟩
/-- what Of answers -/
def OfIs (b : ByteArray) (e : Ending) (w' : World) : Prop := ∃ (x : Xv) (l : List Nat), e = .returned (.tuple #[.agg x.cs, .int .i64 (Em.err (toL b) : Nat)]) ∧ x.Ok ∧ Ws w' x.a x.n l ∧ Em.Wd l ∧
  (Em.err (toL b) = 0 → (⟨l, toL x.d, x.r, x.e⟩ : Em.Ex) = Em.of (toL b)) ∧ (Em.err (toL b) ≠ 0 → x = z0 ∧ l = [])
theorem z0_ok : z0.Ok := ⟨show 0 ≤ 9223372036854775807 by decide, show 0 ≤ 9223372036854775807 by decide, show (-9223372036854775808 : Int) ≤ 0 by decide, show (0 : Int) ≤ 9223372036854775807 by decide, show 0 < 4294967296 by decide⟩
theorem OfIs.no {b : ByteArray} {k : Nat} {w' : World} (h : Em.err (toL b) = k) (hk : k ≠ 0) : OfIs b (.returned (.tuple #[.agg #[.slice none 0 0, .string ⟨#[]⟩, .int .i64 0, .int .u32 0], .int .i64 (k : Nat)])) w' :=
  ⟨z0, [], by rw [h]; rfl, z0_ok, ⟨rfl, fun h => absurd h (by decide)⟩, (fun x hx => nomatch hx), fun e => absurd (h.symm.trans e) hk, fun _ => ⟨rfl, rfl⟩⟩
def magicB : ByteArray := ⟨#[104, 105, 98, 120]⟩
theorem magic_eq (b : ByteArray) (n : Nat) (hn : n = min b.size 4) : (b.extract 0 n = magicB.extract 0 n) ↔ (toL b).take 4 = Em.magic.take (toL b).length := by
  have e1 : toL (b.extract 0 n) = (toL b).take 4 := by
    rw [toL_extract, List.drop_zero, hn]
    by_cases h : b.size ≤ 4
    · rw [show min b.size 4 - 0 = b.size from by omega, List.take_of_length_le (by rw [toL_length]; omega), List.take_of_length_le (by rw [toL_length]; omega)]
    · rw [show min b.size 4 - 0 = 4 from by omega]
  have e2 : toL (magicB.extract 0 n) = Em.magic.take (toL b).length := by
    rw [toL_extract, List.drop_zero, hn, toL_length]
    show Em.magic.take _ = _
    by_cases h : b.size ≤ 4
    · rw [show min b.size 4 - 0 = b.size from by omega]
    · rw [show min b.size 4 - 0 = 4 from by omega, List.take_of_length_le (show Em.magic.length ≤ 4 by decide), List.take_of_length_le (show Em.magic.length ≤ b.size by have : Em.magic.length = 4 := rfl; omega)]
  rw [← e1, ← e2]
  exact ⟨fun h => by rw [h], fun h => toL_inj h⟩
theorem err_magic (b : ByteArray) (h : ¬ b.extract 0 (min b.size 4) = magicB.extract 0 (min b.size 4)) : Em.err (toL b) = 3 := by
  unfold Em.err
  rw [if_pos]
  exact fun e => h ((magic_eq b _ rfl).2 e)
theorem err_rest (b : ByteArray) (h : b.extract 0 (min b.size 4) = magicB.extract 0 (min b.size 4)) : Em.err (toL b) =
    if b.size < 14 then 4 else if b.size < 14 + 4 * num b 8 2 + num b 10 2 then 4 else if 14 + 4 * num b 8 2 + num b 10 2 < b.size then 3 else if Em.bad (Em.of (toL b)) then 3 else 0 := by
  unfold Em.err
  rw [if_neg (by simpa using (magic_eq b _ rfl).1 h)]
  simp only [toL_length]
  rfl
theorem set4 {w : World} {g : Nat} {t : TypeId} {a b c d : Value} (h : Own w g t #[a, b, c, d]) (v0 v1 v2 v3 : Value) : Own ((((w.setCell ⟨g, 0, none⟩ v0).setCell ⟨g, 1, none⟩ v1).setCell ⟨g, 2, none⟩ v2).setCell ⟨g, 3, none⟩ v3) g t #[v0, v1, v2, v3] := by
  have := (((h.set 0 v0).set 1 v1).set 2 v2).set 3 v3
  simpa using this
theorem below4 {B g : Nat} {w wr : World} (h : Below B w wr) (hg : B ≤ g) (v0 v1 v2 v3 : Value) : Below B w ((((wr.setCell ⟨g, 0, none⟩ v0).setCell ⟨g, 1, none⟩ v1).setCell ⟨g, 2, none⟩ v2).setCell ⟨g, 3, none⟩ v3) :=
  (((h.setCell (p := ⟨g, 0, none⟩) hg _).setCell (p := ⟨g, 1, none⟩) hg _).setCell (p := ⟨g, 2, none⟩) hg _).setCell (p := ⟨g, 3, none⟩) hg _
/-- the text's box, and where the answer will lie -/
structure Fo (w wr : World) (b : ByteArray) : Prop where
  s : wr.cell? ⟨w.heap.size, 0, none⟩ = some (.string b)
  o : Own wr (w.heap.size + 1) 25 #[.slice none 0 0, .string ⟨#[]⟩, .int .i64 0, .int .u32 0]
  h : Below w.heap.size w wr
theorem Fo.lt {w wr : World} {b : ByteArray} (o : Fo w wr b) : w.heap.size + 2 ≤ wr.heap.size := o.o.lt
theorem Fo.high {w wr w1 : World} {b : ByteArray} (o : Fo w wr b) (hx : Below (w.heap.size + 2) wr w1) : Fo w w1 b :=
  ⟨(hx.cell (by simp)).trans o.s, (hx.block _ (by omega)).trans o.o, o.h.trans (hx.mono (by omega))⟩
theorem Fo.below {w wr w1 : World} {b : ByteArray} (o : Fo w wr b) (hx : Below wr.heap.size wr w1) : Fo w w1 b := o.high (hx.mono o.lt)
theorem Fo.drew {w wr : World} {b : ByteArray} (o : Fo w wr b) : Fo w wr.drew b := ⟨o.s, o.o, o.h.drew⟩
theorem Fo.start (w : World) (b : ByteArray) (n : Nat) : Fo w (((w.alloc (Obj.cells #[.string b] 9)).alloc (Obj.cells #[.slice none 0 0, .string ⟨#[]⟩, .int .i64 0, .int .u32 0] 25)).drewN n) b := by
  have o0 := Own.new (w.alloc (Obj.cells #[.string b] 9)) 25 #[.slice none 0 0, .string ⟨#[]⟩, .int .i64 0, .int .u32 0]
  rw [show (w.alloc (Obj.cells #[.string b] 9)).heap.size = w.heap.size + 1 from by simp] at o0
  exact ⟨((Own.new w 9 #[.string b]).alloc _).cell 0, o0, below_drewN (((Below.refl _ w).alloc (Nat.le_refl _) _).alloc (by simp) _) n⟩
theorem u32_id (n : Nat) (h : n < 4294967296) : IntKind.u32.wrap (n : Int) = (n : Int) := by simp [IntKind.wrap, IntKind.signed, IntKind.bits]; omega
theorem of_ok {b D : ByteArray} {n nd R E : Nat} (A : Option Addr) (c : Nat) (h1 : b.extract (14 + 4 * n) (14 + 4 * n + nd) = D) (h2 : num b 12 2 = R) (h3 : num b 4 4 = E) (hn : n < 65536) (hb : b.size ≤ 10000) : Xv.Ok ⟨A, n, c, D, (R : Nat), E⟩ := by
  have e1 := num_lt2 b 12
  have e2 := num_lt4 b 4
  rw [h2] at e1
  rw [h3] at e2
  have e3 : D.size ≤ 10000 := by rw [← h1, ByteArray.size_extract]; omega
  exact ⟨show n ≤ 9223372036854775807 by omega, show D.size ≤ 9223372036854775807 by omega, show (-9223372036854775808 : Int) ≤ (R : Nat) by omega, show ((R : Nat) : Int) ≤ 9223372036854775807 by omega, e2⟩
set_option maxHeartbeats 3000000 in
theorem of_any (b : ByteArray) (w : World) (hb : b.size ≤ 10000) : Calls Try.prog 21 #[.string b] w fun e w' => OfIs b e w' ∧ Below w.heap.size w w' := by
  have b0 : Below w.heap.size w ((w.alloc (Obj.cells #[.string b] 9)).alloc (Obj.cells #[.slice none 0 0, .string ⟨#[]⟩, .int .i64 0, .int .u32 0] 25)) := ((Below.refl _ w).alloc (Nat.le_refl _) _).alloc (by simp) _
  have c0 : ((w.alloc (Obj.cells #[.string b] 9)).alloc (Obj.cells #[.slice none 0 0, .string ⟨#[]⟩, .int .i64 0, .int .u32 0] 25)).cell? ⟨w.heap.size, 0, none⟩ = some (.string b) := ((Own.new w 9 #[.string b]).alloc _).cell 0
  have o0 := Own.new (w.alloc (Obj.cells #[.string b] 9)) 25 #[.slice none 0 0, .string ⟨#[]⟩, .int .i64 0, .int .u32 0]
  rw [show (w.alloc (Obj.cells #[.string b] 9)).heap.size = w.heap.size + 1 from by simp] at o0
  have b0' : ∀ n, Below w.heap.size w (((w.alloc (Obj.cells #[.string b] 9)).alloc (Obj.cells #[.slice none 0 0, .string ⟨#[]⟩, .int .i64 0, .int .u32 0] 25)).drewN n) := fun n => below_drewN b0 n
  have b1 := fun n => below4 (b0' n) (show w.heap.size ≤ w.heap.size + 1 by omega) (.slice none 0 0) (.string ⟨#[]⟩) (.int .i64 0) (.int .u32 0)
  have q := fun n => set4 (w := ((w.alloc (Obj.cells #[.string b] 9)).alloc (Obj.cells #[.slice none 0 0, .string ⟨#[]⟩, .int .i64 0, .int .u32 0] 25)).drewN n) o0 (.slice none 0 0) (.string ⟨#[]⟩) (.int .i64 0) (.int .u32 0)
  have q0 := fun n => (q n).cell 0
  have q1 := fun n => (q n).cell 1
  have q2 := fun n => (q n).cell 2
  have q3 := fun n => (q n).cell 3
  have Q0 := Lib.hid q0
  have Q1 := Lib.hid q1
  have Q2 := Lib.hid q2
  have Q3 := Lib.hid q3
  have HB1 := Lib.hid b1
  clear q q0 q1 q2 q3 b1
  generalize hM : min b.size 4 = M at *
  have eM : min (b.size : Int) 4 = (M : Int) := by omega
  have i1 : (M : Int) ≤ (b.size : Int) := by omega
  have i2 : (M : Int) ≤ 4 := by omega
  by_cases h1 : b.extract 0 M = magicB.extract 0 M
  · have he := err_rest b (by rw [hM]; exact h1)
    have t1 := str_yes h1
    unfold magicB at t1
    clear h1
    by_cases h2 : b.size < 14
    · rw [if_pos h2] at he
      have j2 : (b.size : Int) < 14 := by omega
      go_enter Try.func21, Try.ntmps21
      go_wp2_with fail
      go_quiet (fail)
      go_wp2_with fail
      have q0 := Q0.out
      have q1 := Q1.out
      have q2 := Q2.out
      have q3 := Q3.out
      refine bodyPost_ret (v := .tuple #[.agg #[.slice none 0 0, .string ⟨#[]⟩, .int .i64 0, .int .u32 0], .int .i64 4]) (by simp [results, Try.results21, go_sem, q0, q1, q2, q3]) rfl ⟨OfIs.no he (by decide), HB1.out _⟩
    · rw [if_neg h2] at he
      have j2 : ¬ (b.size : Int) < 14 := by omega
      have hk8 := fun n => number_any b w.heap.size 8 2 (((w.alloc (Obj.cells #[.string b] 9)).alloc (Obj.cells #[.slice none 0 0, .string ⟨#[]⟩, .int .i64 0, .int .u32 0] 25)).drewN n) c0 (by omega) (by omega) (by omega)
      have hk10 := fun n => number_any b w.heap.size 10 2 (((w.alloc (Obj.cells #[.string b] 9)).alloc (Obj.cells #[.slice none 0 0, .string ⟨#[]⟩, .int .i64 0, .int .u32 0] 25)).drewN n) c0 (by omega) (by omega) (by omega)
      have l8 := num_lt2 b 8
      have l10 := num_lt2 b 10
      by_cases h3 : b.size < 14 + 4 * num b 8 2 + num b 10 2
      · rw [if_pos h3] at he
        have j3 : (b.size : Int) < 14 + 4 * (num b 8 2 : Int) + (num b 10 2 : Int) := by omega
        generalize num b 8 2 = nw at *
        generalize num b 10 2 = nd at *
        go_enter Try.func21, Try.ntmps21
        go_wp2_with fail
        go_quiet (fail)
        go_wp2_with fail
        refine (hk8 _).mono ?_
        rintro e w1 ⟨rfl, rfl⟩
        go_wp2_with fail
        refine (hk10 _).mono ?_
        rintro e w1 ⟨rfl, rfl⟩
        go_wp2_with fail
        have q0 := Q0.out
        have q1 := Q1.out
        have q2 := Q2.out
        have q3 := Q3.out
        refine bodyPost_ret (v := .tuple #[.agg #[.slice none 0 0, .string ⟨#[]⟩, .int .i64 0, .int .u32 0], .int .i64 4]) (by simp [results, Try.results21, go_sem, q0, q1, q2, q3]) rfl ⟨OfIs.no he (by decide), HB1.out _⟩
      · rw [if_neg h3] at he
        have j3 : ¬ (b.size : Int) < 14 + 4 * (num b 8 2 : Int) + (num b 10 2 : Int) := by omega
        generalize hnw : num b 8 2 = nw at *
        generalize hnd : num b 10 2 = nd at *
        have HW := Lib.hid hnw
        have HD := Lib.hid hnd
        clear hnw hnd
        go_enter Try.func21, Try.ntmps21
        go_wp2_with fail
        go_quiet (fail)
        go_wp2_with fail
        refine (hk8 _).mono ?_
        rintro e w1 ⟨rfl, rfl⟩
        go_wp2_with fail
        refine (hk10 _).mono ?_
        rintro e w1 ⟨rfl, rfl⟩
        go_wp2_with fail
        have hF := Fo.start w b nq
        generalize ((w.alloc (Obj.cells #[.string b] 9)).alloc (Obj.cells #[.slice none 0 0, .string ⟨#[]⟩, .int .i64 0, .int .u32 0] 25)).drewN nq = V at *
        clear hk8 hk10 Q0 Q1 Q2 Q3 HB1 b0 b0' c0 o0
        have l12 := num_lt2 b 12
        have l4 := num_lt4 b 4
        have u1 := u32_id (num b 4 4) l4
        have j4 : 14 + 4 * (nw : Int) + (nd : Int) ≤ (b.size : Int) := by omega
        have a1 : 0 ≤ 14 + 4 * (nw : Int) := by omega
        have a2 : 14 + 4 * (nw : Int) ≤ 14 + 4 * (nw : Int) + (nd : Int) := by omega
        have a3 : 0 ≤ 14 + 4 * (nw : Int) + (nd : Int) := by omega
        have n1 : (14 + 4 * (nw : Int)).toNat = 14 + 4 * nw := by omega
        have n2 : (14 + 4 * (nw : Int) + (nd : Int)).toNat = 14 + 4 * nw + nd := by omega
        go_cut [10] from 42 (fun s10 wc => ∃ g : Nat, s10 = .pointer (some ⟨g, 0, none⟩) ∧ w.heap.size + 2 ≤ g ∧ Fo w wc b ∧ Own wc g 25 #[.slice none 0 0, .string (b.extract (14 + 4 * nw) (14 + 4 * nw + nd)), .int .i64 (num b 12 2 : Nat), .int .u32 (num b 4 4 : Nat)])
        case rest =>
          obtain ⟨g, rfl, pg, hF, p2⟩ := hcut
          clear u1 l12 a1 a2 a3 n1 n2
          generalize hD : b.extract (14 + 4 * nw) (14 + 4 * nw + nd) = D at *
          generalize hR : num b 12 2 = R at *
          generalize hE : num b 4 4 = E at *
          have HDD := Lib.hid hD
          have HRR := Lib.hid hR
          have HEE := Lib.hid hE
          clear hD hR hE
          go_wp2_with fail
          go_loopw [53] (fun i wr => ∃ (k : Nat) (A : Option Addr) (n c : Nat), k ≤ nw ∧ i = .int .i64 k ∧ n = k ∧ Fo w wr b ∧ Own wr g 25 #[.slice A n c, .string D, .int .i64 (R : Nat), .int .u32 (E : Nat)] ∧ RW wr (g + 1) A n c (Em.rdw (toL b) 14 k)) (fun i _ => nw - (intOf i).toNat)
          case atStart => exact ⟨0, none, 0, 0, Nat.zero_le _, rfl, rfl, hF, p2, RW.nil _ _⟩
          case round =>
            clear p2 hF
            obtain ⟨k, A, n, c, hk, rfl, rfl, hF, ho, hr⟩ := hrel
            by_cases hlt : n < nw
            · have hn := fun wr (hF : Fo w wr b) => number_any b w.heap.size (14 + 4 * n) 4 wr hF.s (by omega) (by omega) (by omega)
              have e1 : ((14 + 4 * n : Nat) : Int) = 14 + 4 * (n : Int) := by omega
              rw [e1] at hn
              clear e1
              have HS := Lib.hid (Em.rdw_snoc (toL b) n 14)
              have hv : Nu.getB (Em.at' (toL b) (14 + 4 * n) 4) = num b (14 + 4 * n) 4 := rfl
              rw [hv] at HS
              clear hv
              have u1 := u32_id (num b (14 + 4 * n) 4) (num_lt4 _ _)
              generalize num b (14 + 4 * n) 4 = v at *
              have s1 : IntKind.i64.wrap (4 * (n : Int)) = 4 * (n : Int) := IntWalk.i64_in _ (by omega)
              have s2 : IntKind.i64.wrap (14 + 4 * (n : Int)) = 14 + 4 * (n : Int) := IntWalk.i64_in _ (by omega)
              go_wp2_with fail
              have hq := hn _ hF.drew
              have c0 := ho.cell 0
              have HR := Lib.hid (hr.drew.below (grow wr.drew (Obj.cells #[wv v] 23)))
              have HO := Lib.hid ((show Own wr.drew g 25 #[.slice A n c, .string D, .int .i64 (R : Nat), .int .u32 (E : Nat)] from ho).alloc (Obj.cells #[wv v] 23))
              have HF := Lib.hid (hF.drew.below (grow wr.drew (Obj.cells #[wv v] 23)))
              have M1 := Lib.hid ((Own.new wr.drew 23 #[wv v]).cell 0)
              have HB := Lib.hid (show g + 1 ≤ (wr.drew.alloc (Obj.cells #[wv v] 23)).heap.size from Nat.le_trans ho.lt (grow wr.drew (Obj.cells #[wv v] 23)).size)
              have c0b := (ho.alloc (Obj.cells #[wv v] 23)).cell 0
              unfold wv at HR HO HF M1 HB c0b
              clear hn hF hr ho
              go_region_law (first | (go_simp; refine hq.mono ?_; rintro e w'' ⟨rfl, rfl⟩; try go_simp) | (refine step_app_word rfl (.tmp 57) (.tmp 64) rfl (g + 1) A n c _ (by simp [Act.eval, Act.put]) HR.out wr.heap.size 1 v (by simp [Act.eval, Act.put]) M1.out (by omega) HB.out _ rfl ?_; intro g2 cap' w3 hr3 hb3; have own3 : Own w3 g 25 _ := (hb3.block g (Nat.lt_succ_self g)).trans HO.out; have f0 := own3.frozen 0; have c1 := own3.cell 0))
              all_goals
                go_wp2_with fail
                go_roundw
                case rel =>
                  have hFw : Fo w w3 b := HF.out.high (hb3.mono (by omega))
                  have hb4 : Below (w.heap.size + 2) w3 (w3.setCell ⟨g, 0, none⟩ (.slice (some ⟨g2, 0, none⟩) (n + 1) cap')) := (Below.refl _ _).setCell (p := ⟨g, 0, none⟩) pg _
                  refine ⟨n + 1, some ⟨g2, 0, none⟩, n + 1, cap', by omega, by go_num, rfl, hFw.high hb4, ?_, ?_⟩
                  · have := own3.set 0 (.slice (some ⟨g2, 0, none⟩) (n + 1) cap')
                    simpa using this
                  · rw [HS.out]
                    exact hr3.set g 0 (Nat.lt_succ_self g) _
                case measure => simp [intOf]; omega
            · obtain rfl : n = nw := by omega
              obtain ⟨c0, c1, c2, c3⟩ : wr.cell? ⟨g, 0, none⟩ = some (.slice A n c) ∧ wr.cell? ⟨g, 1, none⟩ = some (.string D) ∧ wr.cell? ⟨g, 2, none⟩ = some (.int .i64 (R : Nat)) ∧ wr.cell? ⟨g, 3, none⟩ = some (.int .u32 (E : Nat)) := ⟨ho.cell 0, ho.cell 1, ho.cell 2, ho.cell 3⟩
              have s0 := hF.s
              have z0 := hF.o.cell 0
              have z1 := hF.o.cell 1
              have z2 := hF.o.cell 2
              have z3 := hF.o.cell 3
              have y0 := hF.o.frozen 0
              have y1 := hF.o.frozen 1
              have y2 := hF.o.frozen 2
              have y3 := hF.o.frozen 3
              by_cases h4 : 14 + 4 * n + nd < b.size
              · rw [if_pos h4] at he
                have j4 : 14 + 4 * (n : Int) + (nd : Int) < (b.size : Int) := by omega
                go_wp2_with fail
                have q := set4 hF.o (.slice none 0 0) (.string ⟨#[]⟩) (.int .i64 0) (.int .u32 0)
                have q0 := q.cell 0
                have q1 := q.cell 1
                have q2 := q.cell 2
                have q3 := q.cell 3
                refine bodyPost_ret (v := .tuple #[.agg #[.slice none 0 0, .string ⟨#[]⟩, .int .i64 0, .int .u32 0], .int .i64 3]) (by simp [results, Try.results21, go_sem, q0, q1, q2, q3]) rfl ⟨OfIs.no he (by decide), below4 hF.h (by omega) _ _ _ _⟩
              · rw [if_neg h4] at he
                have j4 : ¬ 14 + 4 * (n : Int) + (nd : Int) < (b.size : Int) := by omega
                have hof : Em.of (toL b) = ⟨Em.rdw (toL b) 14 n, toL D, (R : Nat), E⟩ := by
                  show (⟨Em.rdw (toL b) 14 (num b 8 2), Em.at' (toL b) (14 + 4 * num b 8 2) (num b 10 2), ((num b 12 2 : Nat) : Int), num b 4 4⟩ : Em.Ex) = _
                  rw [HW.out, HD.out, HRR.out, HEE.out, ← HDD.out, toL_extract, show 14 + 4 * n + nd - (14 + 4 * n) = nd from by omega]
                  rfl
                have hbd : Em.bad (Em.of (toL b)) ↔ badN n D.size (R : Nat) E := by
                  rw [hof]
                  unfold Em.bad badN
                  simp only [Em.rdw_len, toL_length]
                have xok : Xv.Ok ⟨A, n, c, D, (R : Nat), E⟩ := of_ok A c HDD.out HRR.out HEE.out l8 hb
                have hck := fun wr => check_any ⟨A, n, c, D, (R : Nat), E⟩ xok wr
                by_cases h5 : badN n D.size (R : Nat) E
                · rw [if_pos (hbd.2 h5)] at he
                  rw [chkN_bad h5] at hck
                  clear j3 hbd hof xok
                  go_wp2_with fail
                  refine (hck _).mono ?_
                  rintro e w4 ⟨rfl, hx1⟩
                  replace hF := hF.below hx1
                  clear z0 z1 z2 z3 y0 y1 y2 y3 c0 c1 c2 c3 s0
                  have z0 := hF.o.cell 0
                  have z1 := hF.o.cell 1
                  have z2 := hF.o.cell 2
                  have z3 := hF.o.cell 3
                  have y0 := hF.o.frozen 0
                  have y1 := hF.o.frozen 1
                  have y2 := hF.o.frozen 2
                  have y3 := hF.o.frozen 3
                  go_wp2_with fail
                  have q := set4 hF.o (.slice none 0 0) (.string ⟨#[]⟩) (.int .i64 0) (.int .u32 0)
                  have q0 := q.cell 0
                  have q1 := q.cell 1
                  have q2 := q.cell 2
                  have q3 := q.cell 3
                  refine bodyPost_ret (v := .tuple #[.agg #[.slice none 0 0, .string ⟨#[]⟩, .int .i64 0, .int .u32 0], .int .i64 3]) (by simp [results, Try.results21, go_sem, q0, q1, q2, q3]) rfl ⟨OfIs.no he (by decide), below4 hF.h (by omega) _ _ _ _⟩
                · rw [if_neg (fun e => h5 (hbd.1 e))] at he
                  rw [chkN_ok h5] at hck
                  clear j3 hbd
                  go_wp2_with fail
                  refine (hck _).mono ?_
                  rintro e w4 ⟨rfl, hx1⟩
                  replace hF := hF.below hx1
                  have ho4 : Own w4 g 25 _ := (hx1.block _ ho.lt).trans ho
                  have hr4 := hr.below hx1
                  clear z0 z1 z2 z3 y0 y1 y2 y3 c0 c1 c2 c3 s0
                  obtain ⟨c0, c1, c2, c3⟩ : w4.cell? ⟨g, 0, none⟩ = some (.slice A n c) ∧ w4.cell? ⟨g, 1, none⟩ = some (.string D) ∧ w4.cell? ⟨g, 2, none⟩ = some (.int .i64 (R : Nat)) ∧ w4.cell? ⟨g, 3, none⟩ = some (.int .u32 (E : Nat)) := ⟨ho4.cell 0, ho4.cell 1, ho4.cell 2, ho4.cell 3⟩
                  have z0 := hF.o.cell 0
                  have z1 := hF.o.cell 1
                  have z2 := hF.o.cell 2
                  have z3 := hF.o.cell 3
                  have y0 := hF.o.frozen 0
                  have y1 := hF.o.frozen 1
                  have y2 := hF.o.frozen 2
                  have y3 := hF.o.frozen 3
                  go_wp2_with fail
                  have q := set4 hF.o (.slice A n c) (.string D) (.int .i64 (R : Nat)) (.int .u32 (E : Nat))
                  have q0 := q.cell 0
                  have q1 := q.cell 1
                  have q2 := q.cell 2
                  have q3 := q.cell 3
                  have gl : w.heap.size + 1 < g + 1 := by omega
                  have hr5 := (((hr4.set _ 0 gl (.slice A n c)).set _ 1 gl (.string D)).set _ 2 gl (.int .i64 (R : Nat))).set _ 3 gl (.int .u32 (E : Nat))
                  refine bodyPost_ret (v := .tuple #[.agg #[.slice A n c, .string D, .int .i64 (R : Nat), .int .u32 (E : Nat)], .int .i64 0]) (by simp [results, Try.results21, go_sem, q0, q1, q2, q3]) rfl ⟨⟨⟨A, n, c, D, (R : Nat), E⟩, Em.rdw (toL b) 14 n, by rw [he]; rfl, xok, hr5.ws, Em.rdw_wd _ _ _, fun _ => hof.symm, fun h => absurd he h⟩, below4 hF.h (by omega) _ _ _ _⟩
        refine wp_region_held_drew (S := fun w' => Fo w w' b) (by kernel_rfl) hF.drew (fun hHeld => ?_)
        generalize V.drew = W2 at *
        clear hF
        have hHeld0 := hHeld
        refine wpAnyH_take (i := 0) (oi := { dst := some 42, op := Op.load 9 (Operand.tmp 1), type := _, pos := _, after := _, guard := _ }) (v := ?_) rfl (by kernel_rfl) (by kernel_rfl) (by kernel_rfl) (fun _ _ _ h => h) (Or.inl ⟨by rfl, ?_⟩) hHeld ?_
        rotate_left
        · intro wq hSw
          obtain ⟨k0, _, _⟩ := hSw
          go_simp
          rfl
        try simp only [Act.put, List.setIfInBounds_toArray, List.set_cons_zero, List.set_cons_succ]
        refine wpAnyH_take (i := 1) (oi := { dst := some 43, op := Op.move (Operand.tmp 8), type := _, pos := _, after := _, guard := _ }) (v := ?_) rfl (by kernel_rfl) (by kernel_rfl) (by kernel_rfl) (fun _ _ _ h => h) (Or.inl ⟨by rfl, ?_⟩) hHeld ?_
        rotate_left
        · intro wq hSw
          go_simp
          rfl
        try simp only [Act.put, List.setIfInBounds_toArray, List.set_cons_zero, List.set_cons_succ]
        refine wpAnyH_take (i := 2) (oi := { dst := some 44, op := Op.move (Operand.tmp 9), type := _, pos := _, after := _, guard := _ }) (v := ?_) rfl (by kernel_rfl) (by kernel_rfl) (by kernel_rfl) (fun _ _ _ h => h) (Or.inl ⟨by rfl, ?_⟩) hHeld ?_
        rotate_left
        · intro wq hSw
          go_simp
          rfl
        try simp only [Act.put, List.setIfInBounds_toArray, List.set_cons_zero, List.set_cons_succ]
        refine wpAnyH_take (i := 3) (oi := { dst := some 45, op := Op.slice 9 (Operand.tmp 42) (some (Operand.tmp 43)) (some (Operand.tmp 44)) none, type := _, pos := _, after := _, guard := _ }) (v := ?_) rfl (by kernel_rfl) (by kernel_rfl) (by kernel_rfl) (fun _ _ _ h => h) (Or.inl ⟨by rfl, ?_⟩) hHeld ?_
        rotate_left
        · intro wq hSw
          go_simp
          rfl
        try simp only [Act.put, List.setIfInBounds_toArray, List.set_cons_zero, List.set_cons_succ]
        refine wpAnyH_take (i := 4) (oi := { dst := some 46, op := Op.move (Operand.tmp 5), type := _, pos := _, after := _, guard := _ }) (v := ?_) rfl (by kernel_rfl) (by kernel_rfl) (by kernel_rfl) (fun _ _ _ h => h) (Or.inl ⟨by rfl, ?_⟩) hHeld ?_
        rotate_left
        · intro wq hSw
          go_simp
          rfl
        try simp only [Act.put, List.setIfInBounds_toArray, List.set_cons_zero, List.set_cons_succ]
        refine wpAnyH_take (i := 6) (oi := { dst := some 48, op := Op.move (Operand.tmp 5), type := _, pos := _, after := _, guard := _ }) (v := ?_) rfl (by kernel_rfl) (by kernel_rfl) (by kernel_rfl) (fun _ _ _ h => h) (Or.inl ⟨by rfl, ?_⟩) hHeld ?_
        rotate_left
        · intro wq hSw
          go_simp
          rfl
        try simp only [Act.put, List.setIfInBounds_toArray, List.set_cons_zero, List.set_cons_succ]
        refine wpAnyH_ready (rs := [5, 10]) (by kernel_rfl) (by simp) ?_
        refine AllReadyH.cons (o := { dst := some 47, op := Op.call { callee := Callee.value (Operand.tmp 46), args := #[Operand.const (Value.int IntKind.i64 12), Operand.const (Value.int IntKind.i64 2)], argTypes := #[3, 3] }, type := _, pos := _, after := _, guard := _ }) rfl (fun KK hKK => ?_) ?_
        · have hKS := Lib.hid hKK
          clear hKK
          go_simp
          refine (number_any b w.heap.size 12 2 _ hHeld.s (by omega) (by omega) (by omega)).mono ?_
          rintro e wq ⟨rfl, rfl⟩
          go_wp2_with fail
          refine hKS.out.out _ _ hHeld (fun hHeld => ?_)
          clear hKS KK
          try simp only [Act.put, List.setIfInBounds_toArray, List.set_cons_zero, List.set_cons_succ]
          refine wpAnyH_ready (rs := [7, 10]) (by kernel_rfl) (by simp) ?_
          refine AllReadyH.cons (o := { dst := some 49, op := Op.call { callee := Callee.value (Operand.tmp 48), args := #[Operand.const (Value.int IntKind.i64 4), Operand.const (Value.int IntKind.i64 4)], argTypes := #[3, 3] }, type := _, pos := _, after := _, guard := _ }) rfl (fun KK hKK => ?_) ?_
          · have hKS := Lib.hid hKK
            clear hKK
            go_simp
            refine (number_any b w.heap.size 4 4 _ hHeld.s (by omega) (by omega) (by omega)).mono ?_
            rintro e wq ⟨rfl, rfl⟩
            go_wp2_with fail
            refine hKS.out.out _ _ hHeld (fun hHeld => ?_)
            clear hKS KK
            try simp only [Act.put, List.setIfInBounds_toArray, List.set_cons_zero, List.set_cons_succ]
            refine wpAnyH_take (i := 8) (oi := { dst := some 50, op := Op.convert 3 23 (Operand.tmp 49), type := _, pos := _, after := _, guard := _ }) (v := ?_) rfl (by kernel_rfl) (by kernel_rfl) (by kernel_rfl) (fun _ _ _ h => h) (Or.inl ⟨by rfl, ?_⟩) hHeld ?_
            rotate_left
            · intro wq hSw
              go_simp
              rfl
            try simp only [Act.put, List.setIfInBounds_toArray, List.set_cons_zero, List.set_cons_succ]
            refine wpAnyH_take (i := 9) (oi := { dst := some 51, op := Op.build 25 #[(1, Operand.tmp 45), (2, Operand.tmp 47), (3, Operand.tmp 50)], type := _, pos := _, after := _, guard := _ }) (v := ?_) rfl (by kernel_rfl) (by kernel_rfl) (by kernel_rfl) (fun _ _ _ h => h) (Or.inl ⟨by rfl, ?_⟩) hHeld ?_
            rotate_left
            · intro wq hSw
              go_simp
              rfl
            try simp only [Act.put, List.setIfInBounds_toArray, List.set_cons_zero, List.set_cons_succ]
            refine wpAnyH_ready (rs := [10]) (by kernel_rfl) (by simp) ?_
            refine AllReadyH.cons (o := { dst := some 10, op := Op.alloc 25, type := _, pos := _, after := _, guard := _ }) rfl (fun KK hKK => ?_) AllReadyH.nil
            have hKS := Lib.hid hKK
            clear hKK
            go_simp
            refine hKS.out.out _ _ (hHeld.below (grow _ _)) (fun hHeld => ?_)
            clear hKS KK
            have p1 := Own.new W2 25 #[.slice none 0 0, .string ⟨#[]⟩, .int .i64 0, .int .u32 0]
            have pg := hHeld0.lt
            generalize World.alloc W2 (Obj.cells #[.slice none 0 0, .string ⟨#[]⟩, .int .i64 0, .int .u32 0] 25) = v10 at *
            generalize World.heap W2 = h10 at *
            generalize h10.size = g at *
            try simp only [Act.put, List.setIfInBounds_toArray, List.set_cons_zero, List.set_cons_succ]
            refine wpAnyH_ready (rs := [11]) (by kernel_rfl) (by simp) ?_
            refine AllReadyH.cons (o := { dst := none, op := Op.store 25 (Operand.tmp 10) (Operand.tmp 51), type := _, pos := _, after := _, guard := _ }) rfl (fun KK hKK => ?_) AllReadyH.nil
            have hKS := Lib.hid hKK
            clear hKK
            have f0 := p1.frozen 0
            have f1 := p1.frozen 1
            have f2 := p1.frozen 2
            have f3 := p1.frozen 3
            have c0 := p1.cell 0
            have c1 := p1.cell 1
            have c2 := p1.cell 2
            have c3 := p1.cell 3
            go_simp
            refine hKS.out.out _ _ (hHeld.high (below4 (Below.refl _ _) pg _ _ _ _)) (fun hHeld => ?_)
            clear hKS KK
            have p2 := set4 p1 (.slice none 0 0) (.string (b.extract (14 + 4 * nw) (14 + 4 * nw + nd))) (.int .i64 (num b 12 2 : Nat)) (.int .u32 (num b 4 4 : Nat))
            clear p1 f0 f1 f2 f3 c0 c1 c2 c3
            generalize World.setCell (World.setCell (World.setCell (World.setCell v10 ⟨g, 0, none⟩ (.slice none 0 0)) ⟨g, 1, none⟩ (.string (b.extract (14 + 4 * nw) (14 + 4 * nw + nd)))) ⟨g, 2, none⟩ (.int .i64 (num b 12 2 : Nat))) ⟨g, 3, none⟩ (.int .u32 (num b 4 4 : Nat)) = v11 at *
            try simp only [Act.put, List.setIfInBounds_toArray, List.set_cons_zero, List.set_cons_succ]
            refine wpAnyH_done (by kernel_rfl) ?_ _
            go_wp2_with fail
            go_meet
            case rel => exact ⟨g, rfl, pg, hHeld, p2⟩
          refine AllReadyH.cons (o := { dst := some 10, op := Op.alloc 25, type := _, pos := _, after := _, guard := _ }) rfl (fun KK hKK => ?_) AllReadyH.nil
          · have hKS := Lib.hid hKK
            clear hKK
            go_simp
            refine hKS.out.out _ _ (hHeld.below (grow _ _)) (fun hHeld => ?_)
            clear hKS KK
            have p1 := Own.new W2 25 #[.slice none 0 0, .string ⟨#[]⟩, .int .i64 0, .int .u32 0]
            have pg := hHeld0.lt
            generalize World.alloc W2 (Obj.cells #[.slice none 0 0, .string ⟨#[]⟩, .int .i64 0, .int .u32 0] 25) = v10 at *
            generalize World.heap W2 = h10 at *
            generalize h10.size = g at *
            try simp only [Act.put, List.setIfInBounds_toArray, List.set_cons_zero, List.set_cons_succ]
            refine wpAnyH_ready (rs := [7]) (by kernel_rfl) (by simp) ?_
            refine AllReadyH.cons (o := { dst := some 49, op := Op.call { callee := Callee.value (Operand.tmp 48), args := #[Operand.const (Value.int IntKind.i64 4), Operand.const (Value.int IntKind.i64 4)], argTypes := #[3, 3] }, type := _, pos := _, after := _, guard := _ }) rfl (fun KK hKK => ?_) AllReadyH.nil
            have hKS := Lib.hid hKK
            clear hKK
            go_simp
            refine (number_any b w.heap.size 4 4 _ hHeld.s (by omega) (by omega) (by omega)).mono ?_
            rintro e wq ⟨rfl, rfl⟩
            go_wp2_with fail
            refine hKS.out.out _ _ hHeld (fun hHeld => ?_)
            clear hKS KK
            try simp only [Act.put, List.setIfInBounds_toArray, List.set_cons_zero, List.set_cons_succ]
            refine wpAnyH_take (i := 8) (oi := { dst := some 50, op := Op.convert 3 23 (Operand.tmp 49), type := _, pos := _, after := _, guard := _ }) (v := ?_) rfl (by kernel_rfl) (by kernel_rfl) (by kernel_rfl) (fun _ _ _ h => h) (Or.inl ⟨by rfl, ?_⟩) hHeld ?_
            rotate_left
            · intro wq hSw
              go_simp
              rfl
            try simp only [Act.put, List.setIfInBounds_toArray, List.set_cons_zero, List.set_cons_succ]
            refine wpAnyH_take (i := 9) (oi := { dst := some 51, op := Op.build 25 #[(1, Operand.tmp 45), (2, Operand.tmp 47), (3, Operand.tmp 50)], type := _, pos := _, after := _, guard := _ }) (v := ?_) rfl (by kernel_rfl) (by kernel_rfl) (by kernel_rfl) (fun _ _ _ h => h) (Or.inl ⟨by rfl, ?_⟩) hHeld ?_
            rotate_left
            · intro wq hSw
              go_simp
              rfl
            try simp only [Act.put, List.setIfInBounds_toArray, List.set_cons_zero, List.set_cons_succ]
            refine wpAnyH_ready (rs := [11]) (by kernel_rfl) (by simp) ?_
            refine AllReadyH.cons (o := { dst := none, op := Op.store 25 (Operand.tmp 10) (Operand.tmp 51), type := _, pos := _, after := _, guard := _ }) rfl (fun KK hKK => ?_) AllReadyH.nil
            have hKS := Lib.hid hKK
            clear hKK
            have f0 := p1.frozen 0
            have f1 := p1.frozen 1
            have f2 := p1.frozen 2
            have f3 := p1.frozen 3
            have c0 := p1.cell 0
            have c1 := p1.cell 1
            have c2 := p1.cell 2
            have c3 := p1.cell 3
            go_simp
            refine hKS.out.out _ _ (hHeld.high (below4 (Below.refl _ _) pg _ _ _ _)) (fun hHeld => ?_)
            clear hKS KK
            have p2 := set4 p1 (.slice none 0 0) (.string (b.extract (14 + 4 * nw) (14 + 4 * nw + nd))) (.int .i64 (num b 12 2 : Nat)) (.int .u32 (num b 4 4 : Nat))
            clear p1 f0 f1 f2 f3 c0 c1 c2 c3
            generalize World.setCell (World.setCell (World.setCell (World.setCell v10 ⟨g, 0, none⟩ (.slice none 0 0)) ⟨g, 1, none⟩ (.string (b.extract (14 + 4 * nw) (14 + 4 * nw + nd)))) ⟨g, 2, none⟩ (.int .i64 (num b 12 2 : Nat))) ⟨g, 3, none⟩ (.int .u32 (num b 4 4 : Nat)) = v11 at *
            try simp only [Act.put, List.setIfInBounds_toArray, List.set_cons_zero, List.set_cons_succ]
            refine wpAnyH_done (by kernel_rfl) ?_ _
            go_wp2_with fail
            go_meet
            case rel => exact ⟨g, rfl, pg, hHeld, p2⟩
        refine AllReadyH.cons (o := { dst := some 10, op := Op.alloc 25, type := _, pos := _, after := _, guard := _ }) rfl (fun KK hKK => ?_) AllReadyH.nil
        · have hKS := Lib.hid hKK
          clear hKK
          go_simp
          refine hKS.out.out _ _ (hHeld.below (grow _ _)) (fun hHeld => ?_)
          clear hKS KK
          have p1 := Own.new W2 25 #[.slice none 0 0, .string ⟨#[]⟩, .int .i64 0, .int .u32 0]
          have pg := hHeld0.lt
          generalize World.alloc W2 (Obj.cells #[.slice none 0 0, .string ⟨#[]⟩, .int .i64 0, .int .u32 0] 25) = v10 at *
          generalize World.heap W2 = h10 at *
          generalize h10.size = g at *
          try simp only [Act.put, List.setIfInBounds_toArray, List.set_cons_zero, List.set_cons_succ]
          refine wpAnyH_ready (rs := [5]) (by kernel_rfl) (by simp) ?_
          refine AllReadyH.cons (o := { dst := some 47, op := Op.call { callee := Callee.value (Operand.tmp 46), args := #[Operand.const (Value.int IntKind.i64 12), Operand.const (Value.int IntKind.i64 2)], argTypes := #[3, 3] }, type := _, pos := _, after := _, guard := _ }) rfl (fun KK hKK => ?_) AllReadyH.nil
          have hKS := Lib.hid hKK
          clear hKK
          go_simp
          refine (number_any b w.heap.size 12 2 _ hHeld.s (by omega) (by omega) (by omega)).mono ?_
          rintro e wq ⟨rfl, rfl⟩
          go_wp2_with fail
          refine hKS.out.out _ _ hHeld (fun hHeld => ?_)
          clear hKS KK
          try simp only [Act.put, List.setIfInBounds_toArray, List.set_cons_zero, List.set_cons_succ]
          refine wpAnyH_ready (rs := [7]) (by kernel_rfl) (by simp) ?_
          refine AllReadyH.cons (o := { dst := some 49, op := Op.call { callee := Callee.value (Operand.tmp 48), args := #[Operand.const (Value.int IntKind.i64 4), Operand.const (Value.int IntKind.i64 4)], argTypes := #[3, 3] }, type := _, pos := _, after := _, guard := _ }) rfl (fun KK hKK => ?_) AllReadyH.nil
          have hKS := Lib.hid hKK
          clear hKK
          go_simp
          refine (number_any b w.heap.size 4 4 _ hHeld.s (by omega) (by omega) (by omega)).mono ?_
          rintro e wq ⟨rfl, rfl⟩
          go_wp2_with fail
          refine hKS.out.out _ _ hHeld (fun hHeld => ?_)
          clear hKS KK
          try simp only [Act.put, List.setIfInBounds_toArray, List.set_cons_zero, List.set_cons_succ]
          refine wpAnyH_take (i := 8) (oi := { dst := some 50, op := Op.convert 3 23 (Operand.tmp 49), type := _, pos := _, after := _, guard := _ }) (v := ?_) rfl (by kernel_rfl) (by kernel_rfl) (by kernel_rfl) (fun _ _ _ h => h) (Or.inl ⟨by rfl, ?_⟩) hHeld ?_
          rotate_left
          · intro wq hSw
            go_simp
            rfl
          try simp only [Act.put, List.setIfInBounds_toArray, List.set_cons_zero, List.set_cons_succ]
          refine wpAnyH_take (i := 9) (oi := { dst := some 51, op := Op.build 25 #[(1, Operand.tmp 45), (2, Operand.tmp 47), (3, Operand.tmp 50)], type := _, pos := _, after := _, guard := _ }) (v := ?_) rfl (by kernel_rfl) (by kernel_rfl) (by kernel_rfl) (fun _ _ _ h => h) (Or.inl ⟨by rfl, ?_⟩) hHeld ?_
          rotate_left
          · intro wq hSw
            go_simp
            rfl
          try simp only [Act.put, List.setIfInBounds_toArray, List.set_cons_zero, List.set_cons_succ]
          refine wpAnyH_ready (rs := [11]) (by kernel_rfl) (by simp) ?_
          refine AllReadyH.cons (o := { dst := none, op := Op.store 25 (Operand.tmp 10) (Operand.tmp 51), type := _, pos := _, after := _, guard := _ }) rfl (fun KK hKK => ?_) AllReadyH.nil
          have hKS := Lib.hid hKK
          clear hKK
          have f0 := p1.frozen 0
          have f1 := p1.frozen 1
          have f2 := p1.frozen 2
          have f3 := p1.frozen 3
          have c0 := p1.cell 0
          have c1 := p1.cell 1
          have c2 := p1.cell 2
          have c3 := p1.cell 3
          go_simp
          refine hKS.out.out _ _ (hHeld.high (below4 (Below.refl _ _) pg _ _ _ _)) (fun hHeld => ?_)
          clear hKS KK
          have p2 := set4 p1 (.slice none 0 0) (.string (b.extract (14 + 4 * nw) (14 + 4 * nw + nd))) (.int .i64 (num b 12 2 : Nat)) (.int .u32 (num b 4 4 : Nat))
          clear p1 f0 f1 f2 f3 c0 c1 c2 c3
          generalize World.setCell (World.setCell (World.setCell (World.setCell v10 ⟨g, 0, none⟩ (.slice none 0 0)) ⟨g, 1, none⟩ (.string (b.extract (14 + 4 * nw) (14 + 4 * nw + nd)))) ⟨g, 2, none⟩ (.int .i64 (num b 12 2 : Nat))) ⟨g, 3, none⟩ (.int .u32 (num b 4 4 : Nat)) = v11 at *
          try simp only [Act.put, List.setIfInBounds_toArray, List.set_cons_zero, List.set_cons_succ]
          refine wpAnyH_done (by kernel_rfl) ?_ _
          go_wp2_with fail
          go_meet
          case rel => exact ⟨g, rfl, pg, hHeld, p2⟩
  · have he : Em.err (toL b) = 3 := by rw [← hM] at h1; exact err_magic b h1
    have t1 := str_no h1
    unfold magicB at t1
    clear h1
    go_enter Try.func21, Try.ntmps21
    go_wp2_with fail
    go_quiet (fail)
    go_wp2_with fail
    have q0 := Q0.out
    have q1 := Q1.out
    have q2 := Q2.out
    have q3 := Q3.out
    refine bodyPost_ret (v := .tuple #[.agg #[.slice none 0 0, .string ⟨#[]⟩, .int .i64 0, .int .u32 0], .int .i64 3]) (by simp [results, Try.results21, go_sem, q0, q1, q2, q3]) rfl ⟨OfIs.no he (by decide), HB1.out _⟩
end Xe
end Go.Proofs.Ytkbelpkmlmfedaa
