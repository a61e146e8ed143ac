/-
  THE WALKS of a volume without anything.
-/
import Derived.Test.YtambgmjiafcokaaDoorGn
namespace Go.Proofs.YtambgmjiafcokaaDoor
set_option linter.unusedVariables false
set_option maxRecDepth 100000
set_option linter.unusedSimpArgs false
open Go.RowKit
namespace Dw
open _root_.Go.Proofs.YtambgmjiafcokaaDoor.Nm
theorem rs_not_own {w : World} {B g n c : Nat} {l : List ByteArray} {cs : Array Value} (hr : RS w B (some ⟨g, 0, none⟩) n c l) : ¬ Nm.Own w g 58 cs := fun h => by
  exact RS.ne hr h (by decide) rfl
theorem own_grown {w w' : World} {g : Nat} {t : TypeId} {cs : Array Value} {row : Option Nat} (h : Nm.Own w g t cs) (hg : w.grownBy w' row) (hne : row ≠ some g) : Nm.Own w' g t cs := (hg.block g h.lt (Ne.symm hne)).trans h
/-- the map, so many of whose first bits are set -/
def mapT : Nat → ByteArray
  | 0 => zs 128
  | k + 1 => turnT (mapT k) k
theorem mapT_size : ∀ k, (mapT k).size = 128
  | 0 => zs_size 128
  | k + 1 => by rw [mapT, turnT_size, mapT_size k]
theorem mapT_bit : ∀ k, k ≤ 1024 → ∀ j, Gm.bit (toL (mapT k)) j = decide (j < k)
  | 0, _, j => by
    have e : toL (mapT 0) = List.replicate 128 0 := by unfold mapT zs toL; simp
    rw [e]
    unfold Gm.bit
    have : (List.replicate 128 (0 : UInt8)).getD (j / 8) 0 = 0 := by
      rw [List.getD_eq_getElem?_getD, List.getElem?_replicate]; split <;> rfl
    rw [this, Gm.zero_bit]
    simp
  | k + 1, h, j => by
    rw [mapT, toL_turn, Gm.bit_turn (by rw [toL_length, mapT_size]; omega), mapT_bit k (by omega) j]
    by_cases h1 : j < k
    · have h2 : j ≠ k := by omega
      simp [h1, h2, show j < k + 1 by omega]
    · by_cases h2 : j = k
      · subst h2; simp
      · simp [h1, h2, show ¬ j < k + 1 by omega]
/-- a volume, so many of whose first bits are set -/
def fmtK (b n k : Nat) : List ByteArray := ((List.replicate b (zs 128)).set 0 (headT b n)).set 2 (mapT k)
def fmtL (b n : Nat) : List ByteArray := fmtK b n (Gm.dat n)
theorem fmtK_length (b n k : Nat) : (fmtK b n k).length = b := by simp [fmtK]
theorem nth_set {l : List ByteArray} {i : Nat} {x : ByteArray} (h : i < l.length) : nth (l.set i x) i = x := by
  rw [nth_eq (by rw [List.length_set]; exact h), List.getElem_set_self]
theorem nth_set_ne {l : List ByteArray} {i j : Nat} {x : ByteArray} (h : i ≠ j) : nth (l.set i x) j = nth l j := by
  unfold nth
  rw [List.getD_eq_getElem?_getD, List.getD_eq_getElem?_getD, List.getElem?_set_ne h]
theorem nth_rep {b i : Nat} {x : ByteArray} (h : i < b) : nth (List.replicate b x) i = x := by
  rw [nth_eq (by rw [List.length_replicate]; exact h), List.getElem_replicate]
theorem fmt_zero {b n : Nat} (hf : Gm.fits b n) : fmtK b n 0 = (List.replicate b (zs 128)).set 0 (headT b n) := by
  unfold fmtK
  have h16 := hf.1
  apply List.ext_getElem (by simp)
  intro i h1 h2
  rw [List.getElem_set]
  split
  · rename_i e
    subst e
    rw [List.getElem_set_ne (by decide), List.getElem_replicate]
    rfl
  · rfl
theorem fmtK_map {b n : Nat} (hf : Gm.fits b n) (k : Nat) : nth (fmtK b n k) 2 = mapT k := nth_set (by have := hf.1; simp; omega)
theorem fmtK_next (b n k : Nat) : (fmtK b n k).set 2 (turnT (mapT k) k) = fmtK b n (k + 1) := by
  unfold fmtK
  rw [List.set_set]
  rfl
theorem fmtK_head {b n : Nat} (hf : Gm.fits b n) (k : Nat) : nth (fmtK b n k) 0 = headT b n := by
  unfold fmtK
  rw [nth_set_ne (by decide)]
  exact nth_set (by have := hf.1; simp; omega)
theorem fmtK_other {b n i : Nat} (k : Nat) (hi : i < b) (h0 : i ≠ 0) (h2 : i ≠ 2) : nth (fmtK b n k) i = zs 128 := by
  unfold fmtK
  rw [nth_set_ne (Ne.symm h2), nth_set_ne (Ne.symm h0), nth_rep hi]
theorem headT_size (b n : Nat) : (headT b n).size = 128 := by
  rw [← toL_length]
  exact Gm.headL_length b n
theorem fmtK_blk {b n : Nat} (hf : Gm.fits b n) (k : Nat) : Blk (fmtK b n k) b := fun i hi => by
  by_cases h0 : i = 0
  · rw [h0, fmtK_head hf, headT_size]
  · by_cases h2 : i = 2
    · rw [h2, fmtK_map hf, mapT_size]
    · rw [fmtK_other k hi h0 h2, zs_size]
theorem fmt_vol {b n : Nat} (hf : Gm.fits b n) : Vol (fmtL b n) b n := by
  have hD : Gm.dat n < b := hf.2.2.2.2
  have hb := hf.2.1
  refine ⟨fmtK_length _ _ _, fmtK_blk hf _, hf, fmtK_head hf _, fun i hi => ?_⟩
  unfold fmtL
  rw [fmtK_map hf, mapT_bit _ (by omega)]
  refine ⟨fun h => decide_eq_true h, fun h => decide_eq_false (by omega)⟩
/-- the document's row, so many of whose texts are made -/
def rowK (b n k : Nat) : List ByteArray := headT b n :: List.replicate (k - 1) (zs 128)
theorem rowK_next (b n k : Nat) (hk : 1 ≤ k) : rowK b n (k + 1) = rowK b n k ++ [zs 128] := by
  unfold rowK
  rw [List.cons_append, show k + 1 - 1 = (k - 1) + 1 by omega, List.replicate_succ']
theorem rowK_all {b n : Nat} (hf : Gm.fits b n) : rowK b n b = fmtK b n 0 := by
  rw [fmt_zero hf]
  unfold rowK
  have h16 := hf.1
  obtain ⟨k, rfl⟩ : ∃ k, b = k + 1 := ⟨b - 1, by omega⟩
  rw [List.replicate_succ, List.set_cons_zero, Nat.add_sub_cancel]
/-- a volume without anything, or why there is none -/
def FormIs (b n : Int) (B : Nat) (e : Ending) (w' : World) : Prop :=
  (∃ K : Int, K ≠ 0 ∧ Gm.planE b n = K ∧ e = .returned (.tuple #[.slice none 0 0, .int .i64 K])) ∨
  (∃ x y A' c', b = ((x : Nat) : Int) ∧ n = ((y : Nat) : Int) ∧ Gm.fits x y ∧ e = .returned (.tuple #[.slice A' x c', .int .i64 0]) ∧ RS w' B A' x c' (fmtL x y))
set_option maxHeartbeats 4000000 in
theorem format_any (b n : Int) (w : World) : Calls Tryd.prog 21 #[.int .i64 b, .int .i64 n] w fun e w' => FormIs b n w.heap.size e w' ∧ Below w.heap.size w w' := by
  go_enter Tryd.func21, Tryd.ntmps21
  go_wp2_with fail
  refine (plan_any b n _).mono ?_
  rintro e w1 ⟨ho, hx⟩
  rcases ho with ⟨x, y, rfl, rfl, hf, rfl⟩ | ⟨hE, rfl⟩
  · have HF := Lib.hid hf
    have hb2 := hx.trans ((grow w1 (Obj.cells gz 58)).mono hx.size)
    have og := Nm.Own.new w1 58 gz
    go_wp2_with (refine sto24 (cs := gc x y) rfl rfl rfl rfl og (gc_one _ _) gz_one ?_)
    intro w5 o5 s5
    have hb5 := s5.below hb2 hx.size
    clear hx hb2 og s5
    generalize w1.heap.size = g at *
    have hx16 := hf.1
    have hx223 := hf.2.1
    have hy64 := hf.2.2.2.1
    have hD := hf.2.2.2.2
    have d0 : w5.cell? ⟨g, 0, none⟩ = some (.int .i64 (x : Int)) := o5.cell 0
    have d5 : w5.cell? ⟨g, 5, none⟩ = some (.int .i64 ((Gm.dat y : Nat) : Int)) := o5.cell 5
    go_wp2_with fail
    refine (rep_z128 _).mono ?_
    rintro e w6 ⟨rfl, hx6⟩
    have o6 := o5.below hx6
    have hb6 := hb5.trans (hx6.mono hb5.size)
    have hg7 := grow w6 (Obj.cells #[.string (zs 128)] 9)
    have cz := own1 w6 (.string (zs 128)) 9
    have o7 := o6.below hg7
    have hb7 := hb6.trans (hg7.mono hb6.size)
    have hrep := repeat_any (zs 128) x _ (by omega) _ cz
    clear o5 hb5 hx6 o6 hg7
    go_wp2_with fail
    refine hrep.mono ?_
    rintro e w8 ⟨⟨A', c', rfl, hr⟩, hx8⟩
    obtain ⟨g', rfl, hg1, hg2⟩ : ∃ g, A' = some ⟨g, 0, none⟩ ∧ (w6.alloc (Obj.cells #[.string (zs 128)] 9)).heap.size ≤ g ∧ g < w8.heap.size := by
      rcases hr.form with ⟨_, h0, _⟩ | h0
      · omega
      · exact h0
    have o8 := o7.below hx8
    have hb8 := hb7.trans (hx8.mono hb7.size)
    have hr := hr.mono hb7.size
    have hg1 := Nat.le_trans hb7.size hg1
    have hfirst := first_any x y w8 (by omega) (by omega)
    clear hb6 cz hrep o7 hb7 hx8
    go_wp2_with (refine ld24 rfl rfl rfl o8 (gc_one _ _) ?_)
    refine hfirst.mono ?_
    rintro e w9 ⟨rfl, hx9⟩
    have o9 := o8.below hx9
    have hb9 := hb8.trans (hx9.mono hb8.size)
    have hr9 := hr.below hx9
    have cc := RS.cell hr9 (show 0 < x by omega)
    have cf := RS.frozen hr9 0
    have s9 := St.cellOf w9 g' 0 (.string (headT x y))
    have hr10 := RS.put hr9 0 (headT x y)
    have hb10 := s9.below hb9 hg1
    have hne : g ≠ g' := by
      intro e
      subst e
      have := hr9.2
      exact absurd o9 (rs_not_own hr9)
    have o10 := s9.own o9 hne
    have d5 : (w9.setCell ⟨g', 0, none⟩ (.string (headT x y))).cell? ⟨g, 5, none⟩ = some (.int .i64 ((Gm.dat y : Nat) : Int)) := o10.cell 5
    have x0 : (0 : Int) < (x : Int) := by omega
    generalize nth (List.replicate x (zs 128)) 0 = old at cc
    clear hr hr9 hx9 o9 hb9 s9 o8 hb8 hfirst hg2 hg1
    rw [← fmt_zero hf] at hr10
    go_wp2_with fail
    generalize w9.setCell ⟨g', 0, none⟩ (.string (headT x y)) = w10 at *
    go_loopw [8, 29] (fun v i wr => ∃ (k : Nat) (A : Option Addr) (c : Nat), i = .int .i64 k ∧ k ≤ Gm.dat y ∧ v = .slice A x c ∧ RS wr w.heap.size A x c (fmtK x y k) ∧ Below w.heap.size w wr) (fun _ i _ => Gm.dat y - (intOf i).toNat)
    case atStart => exact ⟨0, _, _, rfl, Nat.zero_le _, rfl, hr10, hb10⟩
    case round =>
      obtain ⟨k, A, c, rfl, hk, rfl, hr, hb⟩ := hrel
      by_cases hlt : k < Gm.dat y
      · have k0 : (k : Int) < ((Gm.dat y : Nat) : Int) := by omega
        have hm2 := fmtK_map hf k
        have htu := turned_any A x c (fmtK x y k) k wr (Tz.of hr (by omega)) (by omega) (by rw [hm2, mapT_size]) (by omega)
        rw [hm2, fmtK_next] at htu
        clear d5 cc cf o10
        go_wp2_with fail
        refine htu.mono ?_
        rintro e w11 ⟨⟨A1, c1, rfl, hr1⟩, hx⟩
        have hb11 := hb.trans (hx.mono hb.size)
        have hr2 := hr1.mono hb.size
        go_wp2_with fail
        go_roundw
        case rel => exact ⟨k + 1, A1, c1, by go_num, by omega, rfl, hr2, hb11⟩
        case measure => simp [intOf]; omega
      · obtain rfl : k = Gm.dat y := by omega
        clear d5 cc cf o10
        go_wp2_with fail
        go_ret2
        exact ⟨.inr ⟨x, y, A, c, rfl, rfl, HF.out, rfl, hr⟩, hb⟩
  · have HE := Lib.hid hE
    generalize hKe : Gm.planE b n = K at *
    have HKe := Lib.hid hKe
    clear hKe
    have t1 : (K != 0) = true := by rw [bne_iff_ne]; exact hE
    clear hE
    have hb2 := hx.trans ((grow w1 (Obj.cells gz 58)).mono hx.size)
    have og := Nm.Own.new w1 58 gz
    go_wp2_with (refine sto24 (cs := gz) rfl rfl rfl rfl og gz_one gz_one ?_)
    intro w5 o5 s5
    have hb5 := s5.below hb2 hx.size
    clear hx hb2 og s5
    generalize w1.heap.size = g at *
    go_wp2_with fail
    go_ret2
    exact ⟨.inl ⟨K, HE.out, HKe.out, rfl⟩, hb5⟩
end Dw
end Go.Proofs.YtambgmjiafcokaaDoor
