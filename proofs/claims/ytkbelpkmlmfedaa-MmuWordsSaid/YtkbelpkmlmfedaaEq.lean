/-
  THE WALK of the document's reading of a file.
-/
import Derived.Test.YtkbelpkmlmfedaaEf
namespace Go.Proofs.Ytkbelpkmlmfedaa
set_option linter.unusedVariables false
set_option maxRecDepth 100000
set_option linter.unusedSimpArgs false
open Go.RowKit
namespace Xe
open _root_.Go.Proofs.Ytkbelpkmlmfedaa.Nm
/-- where the answer will lie, and the empty program -/
structure Fr (w wr : World) : Prop where
  o : Own wr w.heap.size 25 #[.slice none 0 0, .string ⟨#[]⟩, .int .i64 0, .int .u32 0]
  z : Own wr (w.heap.size + 1) 25 #[.slice none 0 0, .string ⟨#[]⟩, .int .i64 0, .int .u32 0]
  h : Below w.heap.size w wr
theorem Fr.lt {w wr : World} (o : Fr w wr) : w.heap.size + 2 ≤ wr.heap.size := o.z.lt
theorem Fr.high {w wr w1 : World} (o : Fr w wr) (hx : Below (w.heap.size + 2) wr w1) : Fr w w1 :=
  ⟨(hx.block _ (by omega)).trans o.o, (hx.block _ (by omega)).trans o.z, o.h.trans (hx.mono (by omega))⟩
theorem Fr.below {w wr w1 : World} (o : Fr w wr) (hx : Below wr.heap.size wr w1) : Fr w w1 := o.high (hx.mono o.lt)
theorem Fr.drew {w wr : World} (o : Fr w wr) : Fr w wr.drew := ⟨o.o, o.z, o.h.drew⟩
theorem Fr.drewN {w wr : World} (o : Fr w wr) (n : Nat) : Fr w (wr.drewN n) := ⟨o.o, o.z, below_drewN o.h n⟩
theorem Fr.start (w : World) : Fr w ((w.alloc (Obj.cells #[.slice none 0 0, .string ⟨#[]⟩, .int .i64 0, .int .u32 0] 25)).alloc (Obj.cells #[.slice none 0 0, .string ⟨#[]⟩, .int .i64 0, .int .u32 0] 25)) := by
  have o0 := Own.new (w.alloc (Obj.cells #[.slice none 0 0, .string ⟨#[]⟩, .int .i64 0, .int .u32 0] 25)) 25 #[.slice none 0 0, .string ⟨#[]⟩, .int .i64 0, .int .u32 0]
  rw [show (w.alloc (Obj.cells #[.slice none 0 0, .string ⟨#[]⟩, .int .i64 0, .int .u32 0] 25)).heap.size = w.heap.size + 1 from by simp] at o0
  exact ⟨(Own.new w 25 _).alloc _, o0, ((Below.refl _ w).alloc (Nat.le_refl _) _).alloc (by simp) _⟩
/-- the first bytes, one by one -/
def mg (k : Nat) : UInt8 := Em.magic.getD k 0
def bt (b : ByteArray) (k : Nat) : UInt8 := (toL b).getD k 0
def Like (b : ByteArray) (k : Nat) : Prop := (toL b).take k = Em.magic.take k
theorem mg_eq {k : Nat} (h : k < 4) : Em.magic[k]? = some (mg k) := by
  match k, h with
  | 0, _ => rfl
  | 1, _ => rfl
  | 2, _ => rfl
  | 3, _ => rfl
theorem bt_eq {b : ByteArray} {k : Nat} (h : k < b.size) : (toL b)[k]? = some (bt b k) := by
  unfold bt
  rw [List.getD_eq_getElem?_getD, List.getElem?_eq_getElem (by rw [toL_length]; exact h)]
  rfl
theorem like_next {b : ByteArray} {k : Nat} (h : Like b k) (h4 : k < 4) (hb : k < b.size) (e : bt b k = mg k) : Like b (k + 1) := by
  unfold Like at *
  rw [List.take_add_one, List.take_add_one, h, mg_eq h4, bt_eq hb, e]
theorem like_no {b : ByteArray} {k : Nat} (h4 : k < 4) (hb : k < b.size) (e : ¬ bt b k = mg k) : Em.err (toL b) = 3 := by
  unfold Em.err
  rw [if_pos]
  intro h
  have h2 := congrArg (fun l : List UInt8 => l[k]?) h
  simp only [List.getElem?_take, toL_length] at h2
  rw [if_pos h4, if_pos hb, mg_eq h4, bt_eq hb] at h2
  exact e (Option.some.inj h2)
theorem like_end {b : ByteArray} {k : Nat} (h : Like b k) (h4 : k ≤ 4) (hb : k ≤ b.size) (e : ¬ (k < 4 ∧ k < b.size)) : b.extract 0 (min b.size 4) = magicB.extract 0 (min b.size 4) := by
  refine (magic_eq b _ rfl).2 ?_
  have hm : min b.size 4 = k := by omega
  have e1 : (toL b).take 4 = (toL b).take k := by
    by_cases hk : k = 4
    · rw [hk]
    · rw [List.take_of_length_le (by rw [toL_length]; omega), List.take_of_length_le (by rw [toL_length]; omega)]
  have e2 : Em.magic.take (toL b).length = Em.magic.take k := by
    by_cases hk : k = 4
    · have l4 : Em.magic.length = 4 := rfl
      rw [List.take_of_length_le (by rw [toL_length]; omega), List.take_of_length_le (by omega)]
    · rw [toL_length, show b.size = k from by omega]
  rw [e1, e2]
  exact h
theorem bt_get {b : ByteArray} {k : Nat} (h : k < b.size) : b[k]'h = bt b k := by
  have := bt_eq h
  rw [List.getElem?_eq_getElem (by rw [toL_length]; exact h)] at this
  exact Option.some.inj this
theorem mg_get {k : Nat} (h : k < 4) : (({ data := #[104, 105, 98, 120] } : ByteArray)[k]'h) = mg k := by
  match k, h with
  | 0, _ => rfl
  | 1, _ => rfl
  | 2, _ => rfl
  | 3, _ => rfl
theorem ne_no {b : ByteArray} {k : Nat} (h4 : k < 4) (hb : k < b.size) (e : bt b k = mg k) : (((b[k]'hb).toNat : Int) != ((({ data := #[104, 105, 98, 120] } : ByteArray)[k]'h4).toNat : Int)) = false := by
  rw [bt_get hb, mg_get h4, e]
  simp
theorem ne_yes {b : ByteArray} {k : Nat} (h4 : k < 4) (hb : k < b.size) (e : ¬ bt b k = mg k) : (((b[k]'hb).toNat : Int) != ((({ data := #[104, 105, 98, 120] } : ByteArray)[k]'h4).toNat : Int)) = true := by
  rw [bt_get hb, mg_get h4, bne_iff_ne]
  intro h
  exact e (UInt8.toNat_inj.1 (Int.ofNat.inj h))
set_option maxHeartbeats 3000000 in
theorem rof_any (b : ByteArray) (w : World) (hb : b.size ≤ 10000) : Calls Try.prog 23 #[.string b] w fun e w' => OfIs b e w' ∧ Below w.heap.size w w' := by
  have hS := Fr.start w
  go_enter Try.func23, Try.ntmps23
  go_wp2_with fail
  generalize ((w.alloc (Obj.cells #[.slice none 0 0, .string ⟨#[]⟩, .int .i64 0, .int .u32 0] 25)).alloc (Obj.cells #[.slice none 0 0, .string ⟨#[]⟩, .int .i64 0, .int .u32 0] 25)) = V at *
  go_loopw [5] (fun i wr => ∃ k : Nat, k ≤ 4 ∧ k ≤ b.size ∧ i = .int .i64 k ∧ Like b k ∧ Fr w wr) (fun i _ => 4 - (intOf i).toNat)
  case atStart => exact ⟨0, by omega, by omega, rfl, rfl, hS⟩
  case round =>
    clear hS
    obtain ⟨k, h4, hk, rfl, hl, hF⟩ := hrel
    by_cases hlt : k < 4 ∧ k < b.size
    · obtain ⟨l4, lb⟩ := hlt
      have j1 : (k : Int) < 4 := by omega
      have j2 : (k : Int) < (b.size : Int) := by omega
      by_cases e : bt b k = mg k
      · have t := ne_no l4 lb e
        have HN := Lib.hid (like_next hl l4 lb e)
        clear hl e
        go_wp2_with fail
        go_quiet (fail)
        go_wp2_with fail
        go_roundw
        case rel => exact ⟨k + 1, by omega, by omega, by go_num, HN.out, hF.drewN _⟩
        case measure => simp [intOf]; omega
      · have t := ne_yes l4 lb e
        have he := like_no l4 lb e
        clear hl e
        have hF1 := fun n => hF.drewN n
        have q := fun n => set4 (hF1 n).o (.slice none 0 0) (.string ⟨#[]⟩) (.int .i64 0) (.int .u32 0)
        have q0 := fun n => (q n).cell 0
        have q1 := fun n => (q n).cell 1
        have q2 := fun n => (q n).cell 2
        have q3 := fun n => (q n).cell 3
        have Q0 := Lib.hid q0
        have Q1 := Lib.hid q1
        have Q2 := Lib.hid q2
        have Q3 := Lib.hid q3
        have HB := Lib.hid fun n => below4 (hF1 n).h (Nat.le_refl _) (.slice none 0 0) (.string ⟨#[]⟩) (.int .i64 0) (.int .u32 0)
        clear q q0 q1 q2 q3
        have z0 := fun n => (hF1 n).z.cell 0
        have z1 := fun n => (hF1 n).z.cell 1
        have z2 := fun n => (hF1 n).z.cell 2
        have z3 := fun n => (hF1 n).z.cell 3
        have x0 := fun n => (hF1 n).o.cell 0
        have x1 := fun n => (hF1 n).o.cell 1
        have x2 := fun n => (hF1 n).o.cell 2
        have x3 := fun n => (hF1 n).o.cell 3
        have y0 := fun n => (hF1 n).o.frozen 0
        have y1 := fun n => (hF1 n).o.frozen 1
        have y2 := fun n => (hF1 n).o.frozen 2
        have y3 := fun n => (hF1 n).o.frozen 3
        clear hF1 hF
        go_wp2_with fail
        go_quiet (fail)
        go_wp2_with fail
        have q0 := Q0.out
        have q1 := Q1.out
        have q2 := Q2.out
        have q3 := Q3.out
        refine bodyPost_ret (v := .tuple #[.agg #[.slice none 0 0, .string ⟨#[]⟩, .int .i64 0, .int .u32 0], .int .i64 3]) (by simp [results, Try.results23, go_sem, q0, q1, q2, q3]) rfl ⟨OfIs.no he (by decide), HB.out _⟩
    · have he := err_rest b (like_end hl h4 hk hlt)
      have hj : ¬ ((k : Int) < 4 ∧ (k : Int) < (b.size : Int)) := by omega
      clear hl
      have z0 := hF.z.cell 0
      have z1 := hF.z.cell 1
      have z2 := hF.z.cell 2
      have z3 := hF.z.cell 3
      have x0 := hF.o.cell 0
      have x1 := hF.o.cell 1
      have x2 := hF.o.cell 2
      have x3 := hF.o.cell 3
      have y0 := hF.o.frozen 0
      have y1 := hF.o.frozen 1
      have y2 := hF.o.frozen 2
      have y3 := hF.o.frozen 3
      by_cases h2 : b.size < 14
      · rw [if_pos h2] at he
        have j2 : (b.size : Int) < 14 := by omega
        by_cases j1 : (k : Int) < 4
        · have j3 : ¬ (k : Int) < (b.size : Int) := fun h => hj ⟨j1, h⟩
          clear hj
          go_wp2_with fail
          have q := set4 hF.o (.slice none 0 0) (.string ⟨#[]⟩) (.int .i64 0) (.int .u32 0)
          have q0 := q.cell 0
          have q1 := q.cell 1
          have q2 := q.cell 2
          have q3 := q.cell 3
          refine bodyPost_ret (v := .tuple #[.agg #[.slice none 0 0, .string ⟨#[]⟩, .int .i64 0, .int .u32 0], .int .i64 4]) (by simp [results, Try.results23, go_sem, q0, q1, q2, q3]) rfl ⟨OfIs.no he (by decide), below4 hF.h (Nat.le_refl _) _ _ _ _⟩
        · clear hj
          go_wp2_with fail
          have q := set4 hF.o (.slice none 0 0) (.string ⟨#[]⟩) (.int .i64 0) (.int .u32 0)
          have q0 := q.cell 0
          have q1 := q.cell 1
          have q2 := q.cell 2
          have q3 := q.cell 3
          refine bodyPost_ret (v := .tuple #[.agg #[.slice none 0 0, .string ⟨#[]⟩, .int .i64 0, .int .u32 0], .int .i64 4]) (by simp [results, Try.results23, go_sem, q0, q1, q2, q3]) rfl ⟨OfIs.no he (by decide), below4 hF.h (Nat.le_refl _) _ _ _ _⟩
      · rw [if_neg h2] at he
        have j2 : ¬ (b.size : Int) < 14 := by omega
        have j1 : ¬ (k : Int) < 4 := by omega
        clear hj
        have hk8 := fun w => num_rget b 8 2 w (by omega) (by omega)
        have hk10 := fun w => num_rget b 10 2 w (by omega) (by omega)
        have l8 := num_lt2 b 8
        have l10 := num_lt2 b 10
        have v1 : (8 : Int) ≤ 10 := by decide
        have v2 : (10 : Int) ≤ (b.size : Int) := by omega
        have v3 : (10 : Int) ≤ 12 := by decide
        have v4 : (12 : Int) ≤ (b.size : Int) := by omega
        by_cases h3 : b.size < 14 + 4 * num b 8 2 + num b 10 2
        · rw [if_pos h3] at he
          have j3 : (b.size : Int) < 14 + 4 * (num b 8 2 : Int) + (num b 10 2 : Int) := by omega
          generalize num b 8 2 = nw at *
          generalize num b 10 2 = nd at *
          go_wp2_with fail
          refine (hk8 _).mono ?_
          rintro e w1 ⟨rfl, rfl⟩
          go_wp2_with fail
          refine (hk10 _).mono ?_
          rintro e w1 ⟨rfl, rfl⟩
          go_wp2_with fail
          have q := set4 hF.o (.slice none 0 0) (.string ⟨#[]⟩) (.int .i64 0) (.int .u32 0)
          have q0 := q.cell 0
          have q1 := q.cell 1
          have q2 := q.cell 2
          have q3 := q.cell 3
          refine bodyPost_ret (v := .tuple #[.agg #[.slice none 0 0, .string ⟨#[]⟩, .int .i64 0, .int .u32 0], .int .i64 4]) (by simp [results, Try.results23, go_sem, q0, q1, q2, q3]) rfl ⟨OfIs.no he (by decide), below4 hF.h (Nat.le_refl _) _ _ _ _⟩
        · rw [if_neg h3] at he
          have j3 : ¬ (b.size : Int) < 14 + 4 * (num b 8 2 : Int) + (num b 10 2 : Int) := by omega
          by_cases h4 : 14 + 4 * num b 8 2 + num b 10 2 < b.size
          · rw [if_pos h4] at he
            have j4 : 14 + 4 * (num b 8 2 : Int) + (num b 10 2 : Int) < (b.size : Int) := by omega
            generalize num b 8 2 = nw at *
            generalize num b 10 2 = nd at *
            go_wp2_with fail
            refine (hk8 _).mono ?_
            rintro e w1 ⟨rfl, rfl⟩
            go_wp2_with fail
            refine (hk10 _).mono ?_
            rintro e w1 ⟨rfl, rfl⟩
            go_wp2_with fail
            have q := set4 hF.o (.slice none 0 0) (.string ⟨#[]⟩) (.int .i64 0) (.int .u32 0)
            have q0 := q.cell 0
            have q1 := q.cell 1
            have q2 := q.cell 2
            have q3 := q.cell 3
            refine bodyPost_ret (v := .tuple #[.agg #[.slice none 0 0, .string ⟨#[]⟩, .int .i64 0, .int .u32 0], .int .i64 3]) (by simp [results, Try.results23, go_sem, q0, q1, q2, q3]) rfl ⟨OfIs.no he (by decide), below4 hF.h (Nat.le_refl _) _ _ _ _⟩
          · rw [if_neg h4] at he
            have j4 : ¬ 14 + 4 * (num b 8 2 : Int) + (num b 10 2 : Int) < (b.size : Int) := by omega
            generalize hnw : num b 8 2 = nw at *
            generalize hnd : num b 10 2 = nd at *
            have HW := Lib.hid hnw
            have HD := Lib.hid hnd
            clear hnw hnd
            go_wp2_with fail
            refine (hk8 _).mono ?_
            rintro e w1 ⟨rfl, rfl⟩
            go_wp2_with fail
            refine (hk10 _).mono ?_
            rintro e w1 ⟨rfl, rfl⟩
            go_wp2_with fail
            have l12 := num_lt2 b 12
            have l4' := num_lt4 b 4
            have u1 := u32_id (num b 4 4) l4'
            have u2 : IntKind.i64.wrap (num b 12 2 : Int) = (num b 12 2 : Int) := IntWalk.i64_in _ (by omega)
            have hsz : b.size = 14 + 4 * nw + nd := by omega
            have hj : 14 + 4 * (nw : Int) + (nd : Int) ≤ (b.size : Int) := by omega
            have a1 : 0 ≤ 14 + 4 * (nw : Int) := by omega
            have a2 : 14 + 4 * (nw : Int) ≤ (b.size : Int) := by omega
            have n1 : (14 + 4 * (nw : Int)).toNat = 14 + 4 * nw := by omega
            have s1 : IntKind.i64.wrap (4 * (nw : Int)) = 4 * (nw : Int) := IntWalk.i64_in _ (by omega)
            have s2 : IntKind.i64.wrap (14 + 4 * (nw : Int)) = 14 + 4 * (nw : Int) := IntWalk.i64_in _ (by omega)
            have v5 : (4 : Int) ≤ 8 := by decide
            have v6 : (8 : Int) ≤ (b.size : Int) := by omega
            have v7 : (12 : Int) ≤ 14 := by decide
            have v8 : (14 : Int) ≤ (b.size : Int) := by omega
            have HSZ := Lib.hid hsz
            clear z0 z1 z2 z3 x0 x1 x2 x3 y0 y1 y2 y3 hk8 hk10 hsz
            go_cut [8] from 58 (fun s8 wc => ∃ g : Nat, s8 = .pointer (some ⟨g, 0, none⟩) ∧ w.heap.size + 2 ≤ g ∧ Fr w wc ∧ Own wc g 25 #[.slice none 0 0, .string (b.extract (14 + 4 * nw) b.size), .int .i64 (num b 12 2 : Nat), .int .u32 (num b 4 4 : Nat)])
            case rest =>
              obtain ⟨g, rfl, pg, hF, p2⟩ := hcut
              clear u1 u2 l12 a1 a2 n1 s1 s2 v5 v6 v7 v8 v1 v2 v3 v4
              generalize hD : b.extract (14 + 4 * nw) b.size = D at *
              generalize hR : num b 12 2 = R at *
              generalize hE : num b 4 4 = E at *
              have HDD := Lib.hid hD
              have HRR := Lib.hid hR
              have HEE := Lib.hid hE
              clear hD hR hE
              go_wp2_with fail
              go_loopw [9] (fun i wr => ∃ (k : Nat) (A : Option Addr) (n c : Nat), k ≤ nw ∧ i = .int .i64 k ∧ n = k ∧ Fr w wr ∧ Own wr g 25 #[.slice A n c, .string D, .int .i64 (R : Nat), .int .u32 (E : Nat)] ∧ RW wr (g + 1) A n c (Em.rdw (toL b) 14 k)) (fun i _ => nw - (intOf i).toNat)
              case atStart => exact ⟨0, none, 0, 0, Nat.zero_le _, rfl, rfl, hF, p2, RW.nil _ _⟩
              case round =>
                clear p2 hF
                obtain ⟨k, A, n, c, hk, rfl, rfl, hF, ho, hr⟩ := hrel
                by_cases hlt : n < nw
                · have hn := fun wr => num_rget b (14 + 4 * n) 4 wr (by omega) (by omega)
                  have HS := Lib.hid (Em.rdw_snoc (toL b) n 14)
                  have hv : Nu.getB (Em.at' (toL b) (14 + 4 * n) 4) = num b (14 + 4 * n) 4 := rfl
                  rw [hv] at HS
                  clear hv
                  have u1 := u32_id (num b (14 + 4 * n) 4) (num_lt4 _ _)
                  generalize num b (14 + 4 * n) 4 = v at *
                  have s1 : IntKind.i64.wrap (4 * (n : Int)) = 4 * (n : Int) := IntWalk.i64_in _ (by omega)
                  have s2 : IntKind.i64.wrap (14 + 4 * (n : Int)) = 14 + 4 * (n : Int) := IntWalk.i64_in _ (by omega)
                  have s3 : IntKind.i64.wrap (18 + 4 * (n : Int)) = 18 + 4 * (n : Int) := IntWalk.i64_in _ (by omega)
                  have s3' : IntKind.i64.wrap (4 * (n : Int) + 18) = 18 + 4 * (n : Int) := by rw [Int.add_comm]; exact s3
                  have a1 : 0 ≤ 14 + 4 * (n : Int) := by omega
                  have a2 : 14 + 4 * (n : Int) ≤ 18 + 4 * (n : Int) := by omega
                  have a3 : 18 + 4 * (n : Int) ≤ (b.size : Int) := by omega
                  have n1 : (14 + 4 * (n : Int)).toNat = 14 + 4 * n := by omega
                  have n2 : (18 + 4 * (n : Int)).toNat = 14 + 4 * n + 4 := by omega
                  go_wp2_with fail
                  have hq := hn wr.drew
                  have c0 := ho.cell 0
                  have HR := Lib.hid (hr.drew.below (grow wr.drew (Obj.cells #[wv v] 23)))
                  have HO := Lib.hid ((show Own wr.drew g 25 #[.slice A n c, .string D, .int .i64 (R : Nat), .int .u32 (E : Nat)] from ho).alloc (Obj.cells #[wv v] 23))
                  have HF := Lib.hid (hF.drew.below (grow wr.drew (Obj.cells #[wv v] 23)))
                  have M1 := Lib.hid ((Own.new wr.drew 23 #[wv v]).cell 0)
                  have HB := Lib.hid (show g + 1 ≤ (wr.drew.alloc (Obj.cells #[wv v] 23)).heap.size from Nat.le_trans ho.lt (grow wr.drew (Obj.cells #[wv v] 23)).size)
                  have c0b := (ho.alloc (Obj.cells #[wv v] 23)).cell 0
                  unfold wv at HR HO HF M1 HB c0b
                  clear hn hF hr ho
                  go_region_law (first | (go_simp; refine hq.mono ?_; rintro e w'' ⟨rfl, rfl⟩; try go_simp) | (refine step_app_word rfl (.tmp 78) (.tmp 89) rfl (g + 1) A n c _ (by simp [Act.eval, Act.put]) HR.out wr.heap.size 1 v (by simp [Act.eval, Act.put]) M1.out (by omega) HB.out _ rfl ?_; intro g2 cap' w3 hr3 hb3; have own3 : Own w3 g 25 _ := (hb3.block g (Nat.lt_succ_self g)).trans HO.out; have f0 := own3.frozen 0; have c1 := own3.cell 0))
                  all_goals
                    go_wp2_with fail
                    go_roundw
                    case rel =>
                      have hFw : Fr w w3 := HF.out.high (hb3.mono (by omega))
                      have hb4 : Below (w.heap.size + 2) w3 (w3.setCell ⟨g, 0, none⟩ (.slice (some ⟨g2, 0, none⟩) (n + 1) cap')) := (Below.refl _ _).setCell (p := ⟨g, 0, none⟩) pg _
                      refine ⟨n + 1, some ⟨g2, 0, none⟩, n + 1, cap', by omega, by go_num, rfl, hFw.high hb4, ?_, ?_⟩
                      · have := own3.set 0 (.slice (some ⟨g2, 0, none⟩) (n + 1) cap')
                        simpa using this
                      · rw [HS.out]
                        exact hr3.set g 0 (Nat.lt_succ_self g) _
                    case measure => simp [intOf]; omega
                · obtain rfl : n = nw := by omega
                  obtain ⟨c0, c1, c2, c3⟩ : wr.cell? ⟨g, 0, none⟩ = some (.slice A n c) ∧ wr.cell? ⟨g, 1, none⟩ = some (.string D) ∧ wr.cell? ⟨g, 2, none⟩ = some (.int .i64 (R : Nat)) ∧ wr.cell? ⟨g, 3, none⟩ = some (.int .u32 (E : Nat)) := ⟨ho.cell 0, ho.cell 1, ho.cell 2, ho.cell 3⟩
                  have hof : Em.of (toL b) = ⟨Em.rdw (toL b) 14 n, toL D, (R : Nat), E⟩ := by
                    show (⟨Em.rdw (toL b) 14 (num b 8 2), Em.at' (toL b) (14 + 4 * num b 8 2) (num b 10 2), ((num b 12 2 : Nat) : Int), num b 4 4⟩ : Em.Ex) = _
                    rw [HW.out, HD.out, HRR.out, HEE.out, ← HDD.out, toL_extract, show b.size - (14 + 4 * n) = nd from by have := HSZ.out; omega]
                    rfl
                  have hbd : Em.bad (Em.of (toL b)) ↔ badN n D.size (R : Nat) E := by
                    rw [hof]
                    unfold Em.bad badN
                    simp only [Em.rdw_len, toL_length]
                  have xok : Xv.Ok ⟨A, n, c, D, (R : Nat), E⟩ := of_ok A c (by rw [← HSZ.out]; exact HDD.out) HRR.out HEE.out l8 hb
                  have hck := fun wr => rcheck_any ⟨A, n, c, D, (R : Nat), E⟩ xok wr
                  by_cases h5 : badN n D.size (R : Nat) E
                  · rw [if_pos (hbd.2 h5)] at he
                    rw [chkN_bad h5] at hck
                    clear j3 hbd hof xok
                    go_wp2_with fail
                    refine (hck _).mono ?_
                    rintro e w4 ⟨rfl, hx1⟩
                    replace hF := hF.below hx1
                    clear c0 c1 c2 c3
                    have z0 := hF.z.cell 0
                    have z1 := hF.z.cell 1
                    have z2 := hF.z.cell 2
                    have z3 := hF.z.cell 3
                    have x0 := hF.o.cell 0
                    have x1 := hF.o.cell 1
                    have x2 := hF.o.cell 2
                    have x3 := hF.o.cell 3
                    have y0 := hF.o.frozen 0
                    have y1 := hF.o.frozen 1
                    have y2 := hF.o.frozen 2
                    have y3 := hF.o.frozen 3
                    go_wp2_with fail
                    have q := set4 hF.o (.slice none 0 0) (.string ⟨#[]⟩) (.int .i64 0) (.int .u32 0)
                    have q0 := q.cell 0
                    have q1 := q.cell 1
                    have q2 := q.cell 2
                    have q3 := q.cell 3
                    refine bodyPost_ret (v := .tuple #[.agg #[.slice none 0 0, .string ⟨#[]⟩, .int .i64 0, .int .u32 0], .int .i64 3]) (by simp [results, Try.results23, go_sem, q0, q1, q2, q3]) rfl ⟨OfIs.no he (by decide), below4 hF.h (Nat.le_refl _) _ _ _ _⟩
                  · rw [if_neg (fun e => h5 (hbd.1 e))] at he
                    rw [chkN_ok h5] at hck
                    clear j3 hbd
                    go_wp2_with fail
                    refine (hck _).mono ?_
                    rintro e w4 ⟨rfl, hx1⟩
                    replace hF := hF.below hx1
                    have ho4 : Own w4 g 25 _ := (hx1.block _ ho.lt).trans ho
                    have hr4 := hr.below hx1
                    clear c0 c1 c2 c3
                    obtain ⟨c0, c1, c2, c3⟩ : w4.cell? ⟨g, 0, none⟩ = some (.slice A n c) ∧ w4.cell? ⟨g, 1, none⟩ = some (.string D) ∧ w4.cell? ⟨g, 2, none⟩ = some (.int .i64 (R : Nat)) ∧ w4.cell? ⟨g, 3, none⟩ = some (.int .u32 (E : Nat)) := ⟨ho4.cell 0, ho4.cell 1, ho4.cell 2, ho4.cell 3⟩
                    have z0 := hF.z.cell 0
                    have z1 := hF.z.cell 1
                    have z2 := hF.z.cell 2
                    have z3 := hF.z.cell 3
                    have x0 := hF.o.cell 0
                    have x1 := hF.o.cell 1
                    have x2 := hF.o.cell 2
                    have x3 := hF.o.cell 3
                    have y0 := hF.o.frozen 0
                    have y1 := hF.o.frozen 1
                    have y2 := hF.o.frozen 2
                    have y3 := hF.o.frozen 3
                    go_wp2_with fail
                    have q := set4 hF.o (.slice A n c) (.string D) (.int .i64 (R : Nat)) (.int .u32 (E : Nat))
                    have q0 := q.cell 0
                    have q1 := q.cell 1
                    have q2 := q.cell 2
                    have q3 := q.cell 3
                    have gl : w.heap.size < g + 1 := by omega
                    have hr5 := (((hr4.set _ 0 gl (.slice A n c)).set _ 1 gl (.string D)).set _ 2 gl (.int .i64 (R : Nat))).set _ 3 gl (.int .u32 (E : Nat))
                    refine bodyPost_ret (v := .tuple #[.agg #[.slice A n c, .string D, .int .i64 (R : Nat), .int .u32 (E : Nat)], .int .i64 0]) (by simp [results, Try.results23, go_sem, q0, q1, q2, q3]) rfl ⟨⟨⟨A, n, c, D, (R : Nat), E⟩, Em.rdw (toL b) 14 n, by rw [he]; rfl, xok, hr5.ws, Em.rdw_wd _ _ _, fun _ => hof.symm, fun h => absurd he h⟩, below4 hF.h (Nat.le_refl _) _ _ _ _⟩
            refine wp_region_held_drew (S := fun w' => Fr w w') (by kernel_rfl) hF.drew (fun hHeld => ?_)
            generalize wr.drew = W2 at *
            clear hF
            have hHeld0 := hHeld
            refine wpAnyH_take (i := 0) (oi := { dst := some 58, op := Op.move (Operand.tmp 0), type := _, pos := _, after := _, guard := _ }) (v := ?_) rfl (by kernel_rfl) (by kernel_rfl) (by kernel_rfl) (fun _ _ _ h => h) (Or.inl ⟨by rfl, ?_⟩) hHeld ?_
            rotate_left
            · intro wq hSw
              go_simp
              rfl
            try simp only [Act.put, List.setIfInBounds_toArray, List.set_cons_zero, List.set_cons_succ]
            refine wpAnyH_take (i := 1) (oi := { dst := some 59, op := Op.slice 9 (Operand.tmp 58) (some (Operand.const (Value.int IntKind.i64 4))) (some (Operand.const (Value.int IntKind.i64 8))) none, type := _, pos := _, after := _, guard := _ }) (v := ?_) rfl (by kernel_rfl) (by kernel_rfl) (by kernel_rfl) (fun _ _ _ h => h) (Or.inl ⟨by rfl, ?_⟩) hHeld ?_
            rotate_left
            · intro wq hSw
              go_simp
              rfl
            try simp only [Act.put, List.setIfInBounds_toArray, List.set_cons_zero, List.set_cons_succ]
            refine wpAnyH_take (i := 4) (oi := { dst := some 62, op := Op.move (Operand.tmp 0), type := _, pos := _, after := _, guard := _ }) (v := ?_) rfl (by kernel_rfl) (by kernel_rfl) (by kernel_rfl) (fun _ _ _ h => h) (Or.inl ⟨by rfl, ?_⟩) hHeld ?_
            rotate_left
            · intro wq hSw
              go_simp
              rfl
            try simp only [Act.put, List.setIfInBounds_toArray, List.set_cons_zero, List.set_cons_succ]
            refine wpAnyH_take (i := 5) (oi := { dst := some 63, op := Op.slice 9 (Operand.tmp 62) (some (Operand.const (Value.int IntKind.i64 12))) (some (Operand.const (Value.int IntKind.i64 14))) none, type := _, pos := _, after := _, guard := _ }) (v := ?_) rfl (by kernel_rfl) (by kernel_rfl) (by kernel_rfl) (fun _ _ _ h => h) (Or.inl ⟨by rfl, ?_⟩) hHeld ?_
            rotate_left
            · intro wq hSw
              go_simp
              rfl
            try simp only [Act.put, List.setIfInBounds_toArray, List.set_cons_zero, List.set_cons_succ]
            refine wpAnyH_take (i := 8) (oi := { dst := some 66, op := Op.move (Operand.tmp 0), type := _, pos := _, after := _, guard := _ }) (v := ?_) rfl (by kernel_rfl) (by kernel_rfl) (by kernel_rfl) (fun _ _ _ h => h) (Or.inl ⟨by rfl, ?_⟩) hHeld ?_
            rotate_left
            · intro wq hSw
              go_simp
              rfl
            try simp only [Act.put, List.setIfInBounds_toArray, List.set_cons_zero, List.set_cons_succ]
            refine wpAnyH_take (i := 9) (oi := { dst := some 67, op := Op.move (Operand.tmp 6), type := _, pos := _, after := _, guard := _ }) (v := ?_) rfl (by kernel_rfl) (by kernel_rfl) (by kernel_rfl) (fun _ _ _ h => h) (Or.inl ⟨by rfl, ?_⟩) hHeld ?_
            rotate_left
            · intro wq hSw
              go_simp
              rfl
            try simp only [Act.put, List.setIfInBounds_toArray, List.set_cons_zero, List.set_cons_succ]
            refine wpAnyH_take (i := 10) (oi := { dst := some 68, op := Op.binOp BinOp.mul 3 (Operand.const (Value.int IntKind.i64 4)) (Operand.tmp 67) 3, type := _, pos := _, after := _, guard := _ }) (v := ?_) rfl (by kernel_rfl) (by kernel_rfl) (by kernel_rfl) (fun _ _ _ h => h) (Or.inl ⟨by rfl, ?_⟩) hHeld ?_
            rotate_left
            · intro wq hSw
              go_simp
              rfl
            try simp only [Act.put, List.setIfInBounds_toArray, List.set_cons_zero, List.set_cons_succ]
            refine wpAnyH_take (i := 11) (oi := { dst := some 69, op := Op.binOp BinOp.add 3 (Operand.const (Value.int IntKind.i64 14)) (Operand.tmp 68) 3, type := _, pos := _, after := _, guard := _ }) (v := ?_) rfl (by kernel_rfl) (by kernel_rfl) (by kernel_rfl) (fun _ _ _ h => h) (Or.inl ⟨by rfl, ?_⟩) hHeld ?_
            rotate_left
            · intro wq hSw
              go_simp
              rfl
            try simp only [Act.put, List.setIfInBounds_toArray, List.set_cons_zero, List.set_cons_succ]
            refine wpAnyH_take (i := 12) (oi := { dst := some 70, op := Op.slice 9 (Operand.tmp 66) (some (Operand.tmp 69)) none none, type := _, pos := _, after := _, guard := _ }) (v := ?_) rfl (by kernel_rfl) (by kernel_rfl) (by kernel_rfl) (fun _ _ _ h => h) (Or.inl ⟨by rfl, ?_⟩) hHeld ?_
            rotate_left
            · intro wq hSw
              go_simp
              rfl
            try simp only [Act.put, List.setIfInBounds_toArray, List.set_cons_zero, List.set_cons_succ]
            refine wpAnyH_ready (rs := [2, 14]) (by kernel_rfl) (by simp) ?_
            refine AllReadyH.cons (o := { dst := some 60, op := Op.call { callee := Callee.value (Operand.func 50), args := #[Operand.tmp 59], argTypes := #[9] }, type := _, pos := _, after := _, guard := _ }) rfl (fun KK hKK => ?_) ?_
            · have hKS := Lib.hid hKK
              clear hKK
              go_simp
              refine (num_rget b 4 4 _ (by omega) (by omega)).mono ?_
              rintro e wq ⟨rfl, rfl⟩
              go_wp2_with fail
              refine hKS.out.out _ _ hHeld (fun hHeld => ?_)
              clear hKS KK
              try simp only [Act.put, List.setIfInBounds_toArray, List.set_cons_zero, List.set_cons_succ]
              refine wpAnyH_take (i := 3) (oi := { dst := some 61, op := Op.convert 41 23 (Operand.tmp 60), type := _, pos := _, after := _, guard := _ }) (v := ?_) rfl (by kernel_rfl) (by kernel_rfl) (by kernel_rfl) (fun _ _ _ h => h) (Or.inl ⟨by rfl, ?_⟩) hHeld ?_
              rotate_left
              · intro wq hSw
                go_simp
                rfl
              try simp only [Act.put, List.setIfInBounds_toArray, List.set_cons_zero, List.set_cons_succ]
              refine wpAnyH_ready (rs := [6, 14]) (by kernel_rfl) (by simp) ?_
              refine AllReadyH.cons (o := { dst := some 64, op := Op.call { callee := Callee.value (Operand.func 50), args := #[Operand.tmp 63], argTypes := #[9] }, type := _, pos := _, after := _, guard := _ }) rfl (fun KK hKK => ?_) ?_
              · have hKS := Lib.hid hKK
                clear hKK
                go_simp
                refine (num_rget b 12 2 _ (by omega) (by omega)).mono ?_
                rintro e wq ⟨rfl, rfl⟩
                go_wp2_with fail
                refine hKS.out.out _ _ hHeld (fun hHeld => ?_)
                clear hKS KK
                try simp only [Act.put, List.setIfInBounds_toArray, List.set_cons_zero, List.set_cons_succ]
                refine wpAnyH_take (i := 7) (oi := { dst := some 65, op := Op.convert 41 3 (Operand.tmp 64), type := _, pos := _, after := _, guard := _ }) (v := ?_) rfl (by kernel_rfl) (by kernel_rfl) (by kernel_rfl) (fun _ _ _ h => h) (Or.inl ⟨by rfl, ?_⟩) hHeld ?_
                rotate_left
                · intro wq hSw
                  go_simp
                  rfl
                try simp only [Act.put, List.setIfInBounds_toArray, List.set_cons_zero, List.set_cons_succ]
                refine wpAnyH_take (i := 13) (oi := { dst := some 71, op := Op.build 25 #[(3, Operand.tmp 61), (2, Operand.tmp 65), (1, Operand.tmp 70)], type := _, pos := _, after := _, guard := _ }) (v := ?_) rfl (by kernel_rfl) (by kernel_rfl) (by kernel_rfl) (fun _ _ _ h => h) (Or.inl ⟨by rfl, ?_⟩) hHeld ?_
                rotate_left
                · intro wq hSw
                  go_simp
                  rfl
                try simp only [Act.put, List.setIfInBounds_toArray, List.set_cons_zero, List.set_cons_succ]
                refine wpAnyH_ready (rs := [14]) (by kernel_rfl) (by simp) ?_
                refine AllReadyH.cons (o := { dst := some 8, op := Op.alloc 25, type := _, pos := _, after := _, guard := _ }) rfl (fun KK hKK => ?_) AllReadyH.nil
                have hKS := Lib.hid hKK
                clear hKK
                go_simp
                refine hKS.out.out _ _ (hHeld.below (grow _ _)) (fun hHeld => ?_)
                clear hKS KK
                have p1 := Own.new W2 25 #[.slice none 0 0, .string ⟨#[]⟩, .int .i64 0, .int .u32 0]
                have pg := hHeld0.lt
                generalize World.alloc W2 (Obj.cells #[.slice none 0 0, .string ⟨#[]⟩, .int .i64 0, .int .u32 0] 25) = v14 at *
                generalize World.heap W2 = h14 at *
                generalize h14.size = g at *
                try simp only [Act.put, List.setIfInBounds_toArray, List.set_cons_zero, List.set_cons_succ]
                refine wpAnyH_ready (rs := [15]) (by kernel_rfl) (by simp) ?_
                refine AllReadyH.cons (o := { dst := none, op := Op.store 25 (Operand.tmp 8) (Operand.tmp 71), type := _, pos := _, after := _, guard := _ }) rfl (fun KK hKK => ?_) AllReadyH.nil
                have hKS := Lib.hid hKK
                clear hKK
                have f0 := p1.frozen 0
                have f1 := p1.frozen 1
                have f2 := p1.frozen 2
                have f3 := p1.frozen 3
                have c0 := p1.cell 0
                have c1 := p1.cell 1
                have c2 := p1.cell 2
                have c3 := p1.cell 3
                go_simp
                refine hKS.out.out _ _ (hHeld.high (below4 (Below.refl _ _) pg _ _ _ _)) (fun hHeld => ?_)
                clear hKS KK
                have p2 := set4 p1 (.slice none 0 0) (.string (b.extract (14 + 4 * nw) b.size)) (.int .i64 (num b 12 2 : Nat)) (.int .u32 (num b 4 4 : Nat))
                clear p1 f0 f1 f2 f3 c0 c1 c2 c3
                generalize World.setCell (World.setCell (World.setCell (World.setCell v14 ⟨g, 0, none⟩ (.slice none 0 0)) ⟨g, 1, none⟩ (.string (b.extract (14 + 4 * nw) b.size))) ⟨g, 2, none⟩ (.int .i64 (num b 12 2 : Nat))) ⟨g, 3, none⟩ (.int .u32 (num b 4 4 : Nat)) = v15 at *
                try simp only [Act.put, List.setIfInBounds_toArray, List.set_cons_zero, List.set_cons_succ]
                refine wpAnyH_done (by kernel_rfl) ?_ _
                go_wp2_with fail
                go_meet
                case rel => exact ⟨g, rfl, pg, hHeld, p2⟩
              refine AllReadyH.cons (o := { dst := some 8, op := Op.alloc 25, type := _, pos := _, after := _, guard := _ }) rfl (fun KK hKK => ?_) AllReadyH.nil
              · have hKS := Lib.hid hKK
                clear hKK
                go_simp
                refine hKS.out.out _ _ (hHeld.below (grow _ _)) (fun hHeld => ?_)
                clear hKS KK
                have p1 := Own.new W2 25 #[.slice none 0 0, .string ⟨#[]⟩, .int .i64 0, .int .u32 0]
                have pg := hHeld0.lt
                generalize World.alloc W2 (Obj.cells #[.slice none 0 0, .string ⟨#[]⟩, .int .i64 0, .int .u32 0] 25) = v14 at *
                generalize World.heap W2 = h14 at *
                generalize h14.size = g at *
                try simp only [Act.put, List.setIfInBounds_toArray, List.set_cons_zero, List.set_cons_succ]
                refine wpAnyH_ready (rs := [6]) (by kernel_rfl) (by simp) ?_
                refine AllReadyH.cons (o := { dst := some 64, op := Op.call { callee := Callee.value (Operand.func 50), args := #[Operand.tmp 63], argTypes := #[9] }, type := _, pos := _, after := _, guard := _ }) rfl (fun KK hKK => ?_) AllReadyH.nil
                have hKS := Lib.hid hKK
                clear hKK
                go_simp
                refine (num_rget b 12 2 _ (by omega) (by omega)).mono ?_
                rintro e wq ⟨rfl, rfl⟩
                go_wp2_with fail
                refine hKS.out.out _ _ hHeld (fun hHeld => ?_)
                clear hKS KK
                try simp only [Act.put, List.setIfInBounds_toArray, List.set_cons_zero, List.set_cons_succ]
                refine wpAnyH_take (i := 7) (oi := { dst := some 65, op := Op.convert 41 3 (Operand.tmp 64), type := _, pos := _, after := _, guard := _ }) (v := ?_) rfl (by kernel_rfl) (by kernel_rfl) (by kernel_rfl) (fun _ _ _ h => h) (Or.inl ⟨by rfl, ?_⟩) hHeld ?_
                rotate_left
                · intro wq hSw
                  go_simp
                  rfl
                try simp only [Act.put, List.setIfInBounds_toArray, List.set_cons_zero, List.set_cons_succ]
                refine wpAnyH_take (i := 13) (oi := { dst := some 71, op := Op.build 25 #[(3, Operand.tmp 61), (2, Operand.tmp 65), (1, Operand.tmp 70)], type := _, pos := _, after := _, guard := _ }) (v := ?_) rfl (by kernel_rfl) (by kernel_rfl) (by kernel_rfl) (fun _ _ _ h => h) (Or.inl ⟨by rfl, ?_⟩) hHeld ?_
                rotate_left
                · intro wq hSw
                  go_simp
                  rfl
                try simp only [Act.put, List.setIfInBounds_toArray, List.set_cons_zero, List.set_cons_succ]
                refine wpAnyH_ready (rs := [15]) (by kernel_rfl) (by simp) ?_
                refine AllReadyH.cons (o := { dst := none, op := Op.store 25 (Operand.tmp 8) (Operand.tmp 71), type := _, pos := _, after := _, guard := _ }) rfl (fun KK hKK => ?_) AllReadyH.nil
                have hKS := Lib.hid hKK
                clear hKK
                have f0 := p1.frozen 0
                have f1 := p1.frozen 1
                have f2 := p1.frozen 2
                have f3 := p1.frozen 3
                have c0 := p1.cell 0
                have c1 := p1.cell 1
                have c2 := p1.cell 2
                have c3 := p1.cell 3
                go_simp
                refine hKS.out.out _ _ (hHeld.high (below4 (Below.refl _ _) pg _ _ _ _)) (fun hHeld => ?_)
                clear hKS KK
                have p2 := set4 p1 (.slice none 0 0) (.string (b.extract (14 + 4 * nw) b.size)) (.int .i64 (num b 12 2 : Nat)) (.int .u32 (num b 4 4 : Nat))
                clear p1 f0 f1 f2 f3 c0 c1 c2 c3
                generalize World.setCell (World.setCell (World.setCell (World.setCell v14 ⟨g, 0, none⟩ (.slice none 0 0)) ⟨g, 1, none⟩ (.string (b.extract (14 + 4 * nw) b.size))) ⟨g, 2, none⟩ (.int .i64 (num b 12 2 : Nat))) ⟨g, 3, none⟩ (.int .u32 (num b 4 4 : Nat)) = v15 at *
                try simp only [Act.put, List.setIfInBounds_toArray, List.set_cons_zero, List.set_cons_succ]
                refine wpAnyH_done (by kernel_rfl) ?_ _
                go_wp2_with fail
                go_meet
                case rel => exact ⟨g, rfl, pg, hHeld, p2⟩
            refine AllReadyH.cons (o := { dst := some 8, op := Op.alloc 25, type := _, pos := _, after := _, guard := _ }) rfl (fun KK hKK => ?_) AllReadyH.nil
            · have hKS := Lib.hid hKK
              clear hKK
              go_simp
              refine hKS.out.out _ _ (hHeld.below (grow _ _)) (fun hHeld => ?_)
              clear hKS KK
              have p1 := Own.new W2 25 #[.slice none 0 0, .string ⟨#[]⟩, .int .i64 0, .int .u32 0]
              have pg := hHeld0.lt
              generalize World.alloc W2 (Obj.cells #[.slice none 0 0, .string ⟨#[]⟩, .int .i64 0, .int .u32 0] 25) = v14 at *
              generalize World.heap W2 = h14 at *
              generalize h14.size = g at *
              try simp only [Act.put, List.setIfInBounds_toArray, List.set_cons_zero, List.set_cons_succ]
              refine wpAnyH_ready (rs := [2]) (by kernel_rfl) (by simp) ?_
              refine AllReadyH.cons (o := { dst := some 60, op := Op.call { callee := Callee.value (Operand.func 50), args := #[Operand.tmp 59], argTypes := #[9] }, type := _, pos := _, after := _, guard := _ }) rfl (fun KK hKK => ?_) AllReadyH.nil
              have hKS := Lib.hid hKK
              clear hKK
              go_simp
              refine (num_rget b 4 4 _ (by omega) (by omega)).mono ?_
              rintro e wq ⟨rfl, rfl⟩
              go_wp2_with fail
              refine hKS.out.out _ _ hHeld (fun hHeld => ?_)
              clear hKS KK
              try simp only [Act.put, List.setIfInBounds_toArray, List.set_cons_zero, List.set_cons_succ]
              refine wpAnyH_take (i := 3) (oi := { dst := some 61, op := Op.convert 41 23 (Operand.tmp 60), type := _, pos := _, after := _, guard := _ }) (v := ?_) rfl (by kernel_rfl) (by kernel_rfl) (by kernel_rfl) (fun _ _ _ h => h) (Or.inl ⟨by rfl, ?_⟩) hHeld ?_
              rotate_left
              · intro wq hSw
                go_simp
                rfl
              try simp only [Act.put, List.setIfInBounds_toArray, List.set_cons_zero, List.set_cons_succ]
              refine wpAnyH_ready (rs := [6]) (by kernel_rfl) (by simp) ?_
              refine AllReadyH.cons (o := { dst := some 64, op := Op.call { callee := Callee.value (Operand.func 50), args := #[Operand.tmp 63], argTypes := #[9] }, type := _, pos := _, after := _, guard := _ }) rfl (fun KK hKK => ?_) AllReadyH.nil
              have hKS := Lib.hid hKK
              clear hKK
              go_simp
              refine (num_rget b 12 2 _ (by omega) (by omega)).mono ?_
              rintro e wq ⟨rfl, rfl⟩
              go_wp2_with fail
              refine hKS.out.out _ _ hHeld (fun hHeld => ?_)
              clear hKS KK
              try simp only [Act.put, List.setIfInBounds_toArray, List.set_cons_zero, List.set_cons_succ]
              refine wpAnyH_take (i := 7) (oi := { dst := some 65, op := Op.convert 41 3 (Operand.tmp 64), type := _, pos := _, after := _, guard := _ }) (v := ?_) rfl (by kernel_rfl) (by kernel_rfl) (by kernel_rfl) (fun _ _ _ h => h) (Or.inl ⟨by rfl, ?_⟩) hHeld ?_
              rotate_left
              · intro wq hSw
                go_simp
                rfl
              try simp only [Act.put, List.setIfInBounds_toArray, List.set_cons_zero, List.set_cons_succ]
              refine wpAnyH_take (i := 13) (oi := { dst := some 71, op := Op.build 25 #[(3, Operand.tmp 61), (2, Operand.tmp 65), (1, Operand.tmp 70)], type := _, pos := _, after := _, guard := _ }) (v := ?_) rfl (by kernel_rfl) (by kernel_rfl) (by kernel_rfl) (fun _ _ _ h => h) (Or.inl ⟨by rfl, ?_⟩) hHeld ?_
              rotate_left
              · intro wq hSw
                go_simp
                rfl
              try simp only [Act.put, List.setIfInBounds_toArray, List.set_cons_zero, List.set_cons_succ]
              refine wpAnyH_ready (rs := [15]) (by kernel_rfl) (by simp) ?_
              refine AllReadyH.cons (o := { dst := none, op := Op.store 25 (Operand.tmp 8) (Operand.tmp 71), type := _, pos := _, after := _, guard := _ }) rfl (fun KK hKK => ?_) AllReadyH.nil
              have hKS := Lib.hid hKK
              clear hKK
              have f0 := p1.frozen 0
              have f1 := p1.frozen 1
              have f2 := p1.frozen 2
              have f3 := p1.frozen 3
              have c0 := p1.cell 0
              have c1 := p1.cell 1
              have c2 := p1.cell 2
              have c3 := p1.cell 3
              go_simp
              refine hKS.out.out _ _ (hHeld.high (below4 (Below.refl _ _) pg _ _ _ _)) (fun hHeld => ?_)
              clear hKS KK
              have p2 := set4 p1 (.slice none 0 0) (.string (b.extract (14 + 4 * nw) b.size)) (.int .i64 (num b 12 2 : Nat)) (.int .u32 (num b 4 4 : Nat))
              clear p1 f0 f1 f2 f3 c0 c1 c2 c3
              generalize World.setCell (World.setCell (World.setCell (World.setCell v14 ⟨g, 0, none⟩ (.slice none 0 0)) ⟨g, 1, none⟩ (.string (b.extract (14 + 4 * nw) b.size))) ⟨g, 2, none⟩ (.int .i64 (num b 12 2 : Nat))) ⟨g, 3, none⟩ (.int .u32 (num b 4 4 : Nat)) = v15 at *
              try simp only [Act.put, List.setIfInBounds_toArray, List.set_cons_zero, List.set_cons_succ]
              refine wpAnyH_done (by kernel_rfl) ?_ _
              go_wp2_with fail
              go_meet
              case rel => exact ⟨g, rfl, pg, hHeld, p2⟩
end Xe
end Go.Proofs.Ytkbelpkmlmfedaa
