/-
  THE WALKS of bytes laid as pages: the code's and the document's.
-/
import Derived.Test.YtkbelpkmlmfedaaEl
namespace Go.Proofs.Ytkbelpkmlmfedaa
set_option linter.unusedVariables false
set_option maxRecDepth 100000
set_option linter.unusedSimpArgs false
open Go.RowKit
namespace Xe
open _root_.Go.Proofs.Ytkbelpkmlmfedaa.Nm
theorem front_cut (b : ByteArray) (k P : Nat) (hb : b.size = 128 * P) (hk : k < P) : (b.extract (128 * k) (128 * P)).extract 0 128 = b.extract (128 * k) (128 * k + 128) := by
  apply toL_inj
  rw [toL_extract, toL_extract, toL_extract, List.drop_zero, List.take_take]
  congr 1
  omega
theorem back_cut (b : ByteArray) (k P : Nat) (hb : b.size = 128 * P) (hk : k < P) : (b.extract (128 * k) (128 * P)).extract 128 (128 * (P - k)) = b.extract (128 * (k + 1)) (128 * P) := by
  apply toL_inj
  rw [toL_extract, toL_extract, toL_extract, List.drop_take, List.drop_drop, List.take_take]
  congr 1
  omega
theorem cut_size (b : ByteArray) (k P : Nat) (hb : b.size = 128 * P) (hk : k ≤ P) : (b.extract (128 * k) (128 * P)).size = 128 * (P - k) := by
  rw [ByteArray.size_extract, hb]; omega
theorem new_cells (w : World) (x : Pg) : (w.alloc (Obj.cells #[.int .i64 (x.i : Nat), .string x.d, .bool x.w] 40)).cell? ⟨w.heap.size, 0, none⟩ = some (.int .i64 (x.i : Nat)) ∧ (w.alloc (Obj.cells #[.int .i64 (x.i : Nat), .string x.d, .bool x.w] 40)).cell? ⟨w.heap.size, 1, none⟩ = some (.string x.d) ∧ (w.alloc (Obj.cells #[.int .i64 (x.i : Nat), .string x.d, .bool x.w] 40)).cell? ⟨w.heap.size, 2, none⟩ = some (.bool x.w) :=
  ⟨(Own.new w 40 _).cell 0, (Own.new w 40 _).cell 1, (Own.new w 40 _).cell 2⟩
theorem ne_nil {D : ByteArray} (h : 0 < D.size) : D.toList.isEmpty = false := by
  rw [List.isEmpty_eq_false_iff]
  intro e
  rw [Go.ByteArray.toList_eq] at e
  have := toL_length D
  unfold toL at this
  rw [e] at this
  rw [← this] at h
  exact absurd h (by decide)
theorem eq_nil {D : ByteArray} (h : D.size = 0) : D.toList.isEmpty = true := by
  rw [List.isEmpty_iff]
  rw [Go.ByteArray.toList_eq]
  exact List.length_eq_zero_iff.1 ((toL_length D).trans h)
set_option maxHeartbeats 400000 in
theorem code_pages (B : Nat) (A : Option Addr) (n c : Nat) (L : List Pg) (b : ByteArray) (wt : Bool) (w : World) (hr : RP w B A n c L) (hn : n ≤ 100) (hb : b.size ≤ 10000) (hB : B ≤ w.heap.size) :
    Calls Try.prog 51 #[.slice A n c, .string b, .bool wt] w fun e w' => (∃ A' n' c', e = .returned (.slice A' n' c') ∧ RP w' B A' n' c' (L ++ pp n (pad b) wt (pn b.size))) ∧ Below B w w' := by
  have hp : pn b.size ≤ 100 := by unfold pn; omega
  have h47 := fun w => pages_any (b.size : Int) w (by omega) (by omega)
  rw [pg_pn] at h47
  have h52 := fun w => repeat_any (128 * pn b.size - b.size) w (by omega)
  have hz := pad_size b
  have hle : b.size ≤ 128 * pn b.size := by unfold pn; omega
  have e1 : ((128 * pn b.size - b.size : Nat) : Int) = 128 * (pn b.size : Int) - (b.size : Int) := by omega
  rw [e1] at h52
  have y1 : ¬ 9223372036854775807 < b.size + (128 * pn b.size - b.size) := by omega
  have z1 := zs_size (128 * pn b.size - b.size)
  have hpd : b ++ zs (128 * pn b.size - b.size) = pad b := rfl
  generalize hZ : zs (128 * pn b.size - b.size) = Z at *
  generalize hC : pad b = C at *
  generalize hP : pn b.size = P at *
  clear hZ hC hP
  have HPD := Lib.hid hpd
  clear hpd e1
  go_enter Try.func51, Try.ntmps51
  go_wp2_with fail
  refine (h47 _).mono ?_
  rintro e w1 ⟨rfl, rfl⟩
  go_wp2_with fail
  refine (h52 _).mono ?_
  rintro e w1 ⟨rfl, hx1⟩
  replace hr := hr.below hx1
  have hx : Below B w w1 := hx1.mono hB
  have hB1 : B ≤ w1.heap.size := Nat.le_trans hB hx1.size
  go_wp2_with fail
  rw [HPD.out]
  go_loopw [0, 1] (fun v d wr => ∃ (k : Nat) (A' : Option Addr) (n' c' : Nat), k ≤ P ∧ v = .slice A' n' c' ∧ d = .string (C.extract (128 * k) (128 * P)) ∧ n' = n + k ∧ RP wr B A' n' c' (L ++ pp n C wt k) ∧ Below B w wr) (fun _ d _ => Nm.strLen d)
  case atStart =>
    refine ⟨0, A, n, c, Nat.zero_le _, rfl, ?_, rfl, by simpa [pp] using hr, hx⟩
    rw [← hz]; simp
  case round =>
    obtain ⟨k, A', n', c', hk, rfl, rfl, rfl, hr', hx'⟩ := hrel
    have hs := cut_size C k P hz hk
    by_cases hlt : k < P
    · have HF := Lib.hid (front_cut C k P hz hlt)
      have HG := Lib.hid (back_cut C k P hz hlt)
      have hsz : 128 ≤ (C.extract (128 * k) (128 * P)).size := by omega
      have hsl : (C.extract (128 * (k + 1)) (128 * P)).size < (C.extract (128 * k) (128 * P)).size := by rw [cut_size C (k + 1) P hz (by omega), hs]; omega
      generalize hD : C.extract (128 * k) (128 * P) = D at *
      have tne := ne_nil (show 0 < D.size by omega)
      have i1 : (128 : Int) ≤ (D.size : Int) := by omega
      have hrA := hr'.below (grow wr (Obj.cells #[.int .i64 ((n + k : Nat) : Int), .string (D.extract 0 128), .bool wt] 40))
      have nc := Lib.hid (new_cells wr ⟨n + k, D.extract 0 128, wt⟩)
      have HR := Lib.hid hrA
      have HS := Lib.hid hs
      have HB := Lib.hid (show B ≤ (wr.alloc (Obj.cells #[.int .i64 ((n + k : Nat) : Int), .string (D.extract 0 128), .bool wt] 40)).heap.size from Nat.le_trans (Nat.le_trans hB hx'.size) (grow _ _).size)
      have HSL := Lib.hid hsl
      clear hrA hs hsl hsz h47 h52 hz hr y1 z1 hx1 hx hr' hk
      obtain ⟨m1, m2, m3⟩ := nc.out
      go_wp2_with (at_builtin; refine app_page rfl (.tmp 19) (.tmp 26) rfl B A' (n + k) c' _ rfl HR.out wr.heap.size 1 ⟨n + k, D.extract 0 128, wt⟩ rfl m1 m2 m3 (by omega) HB.out _ rfl ?_; intro g cap' w2 hr2 hb2)
      have eD : D.extract 128 D.size = C.extract (128 * (k + 1)) (128 * P) := by
        have := HG.out
        rwa [← HS.out] at this
      go_roundw
      case rel =>
        refine ⟨k + 1, some ⟨g, 0, none⟩, n + k + 1, cap', by omega, rfl, by rw [eD], by omega, ?_, ?_⟩
        · have e2 : L ++ pp n C wt k ++ [⟨n + k, D.extract 0 128, wt⟩] = L ++ pp n C wt (k + 1) := by rw [pp_next, List.append_assoc, HF.out]
          rw [← e2]
          exact hr2
        · exact hx'.trans (((grow _ _).mono (Nat.le_trans hB hx'.size)).trans hb2)
      case measure =>
        rw [eD]
        exact HSL.out
    · obtain rfl : k = P := by omega
      have tnil := eq_nil (D := C.extract (128 * k) (128 * k)) (by rw [hs]; omega)
      go_wp2_with fail
      go_ret
      exact ⟨⟨_, _, _, rfl, hr'⟩, hx'⟩
set_option maxHeartbeats 400000 in
theorem ref_pages (B : Nat) (A : Option Addr) (n c s : Nat) (L : List Pg) (b : ByteArray) (wt : Bool) (w : World) (hr : RP w B A n c L) (hn : n ≤ 100) (hs : s ≤ 100) (hb : b.size ≤ 10000) (hB : B ≤ w.heap.size) :
    Calls Try.prog 53 #[.slice A n c, .int .i64 s, .string b, .bool wt] w fun e w' => (∃ A' n' c', e = .returned (.slice A' n' c') ∧ RP w' B A' n' c' (L ++ pp s (pad b) wt (pn b.size))) ∧ Below B w w' := by
  have hp : pn b.size ≤ 100 := by unfold pn; omega
  have h48 := fun w => rpages_any (b.size : Int) w (by omega) (by omega)
  rw [pg_pn] at h48
  have h54 := fun w => zeros_any (128 * pn b.size - b.size) w (by omega)
  have hz := pad_size b
  have hle : b.size ≤ 128 * pn b.size := by unfold pn; omega
  have e1 : ((128 * pn b.size - b.size : Nat) : Int) = 128 * (pn b.size : Int) - (b.size : Int) := by omega
  rw [e1] at h54
  have y1 : ¬ 9223372036854775807 < b.size + (128 * pn b.size - b.size) := by omega
  have z1 := zs_size (128 * pn b.size - b.size)
  have hpd : b ++ zs (128 * pn b.size - b.size) = pad b := rfl
  generalize hZ : zs (128 * pn b.size - b.size) = Z at *
  generalize hC : pad b = C at *
  generalize hP : pn b.size = P at *
  clear hZ hC hP
  have HPD := Lib.hid hpd
  clear hpd e1
  go_enter Try.func53, Try.ntmps53
  go_wp2_with fail
  refine (h48 _).mono ?_
  rintro e w1 ⟨rfl, rfl⟩
  go_wp2_with fail
  refine (h54 _).mono ?_
  rintro e w1 ⟨rfl, rfl⟩
  go_wp2_with fail
  rw [HPD.out]
  go_loopw [0, 10] (fun v i wr => ∃ (k : Nat) (A' : Option Addr) (n' c' : Nat), k ≤ P ∧ v = .slice A' n' c' ∧ i = .int .i64 k ∧ n' = n + k ∧ RP wr B A' n' c' (L ++ pp s C wt k) ∧ Below B w wr) (fun _ i _ => P - (intOf i).toNat)
  case atStart => exact ⟨0, A, n, c, Nat.zero_le _, rfl, rfl, rfl, by simpa [pp] using hr, Below.refl _ _⟩
  case round =>
    obtain ⟨k, A', n', c', hk, rfl, rfl, rfl, hr', hx'⟩ := hrel
    by_cases hlt : k < P
    · have i1 : 128 * (k : Int) + 128 ≤ (C.size : Int) := by omega
      have hrA := hr'.below (grow wr (Obj.cells #[.int .i64 ((s + k : Nat) : Int), .string (C.extract (128 * k) (128 * k + 128)), .bool wt] 40))
      have nc := Lib.hid (new_cells wr ⟨s + k, C.extract (128 * k) (128 * k + 128), wt⟩)
      have HR := Lib.hid hrA
      have HB := Lib.hid (show B ≤ (wr.alloc (Obj.cells #[.int .i64 ((s + k : Nat) : Int), .string (C.extract (128 * k) (128 * k + 128)), .bool wt] 40)).heap.size from Nat.le_trans (Nat.le_trans hB hx'.size) (grow _ _).size)
      have HZ := Lib.hid hz
      clear hrA h48 h54 hz hr y1 z1 hr' hk
      obtain ⟨m1, m2, m3⟩ := nc.out
      go_wp2_with (at_builtin; refine app_page rfl (.tmp 27) (.tmp 40) rfl B A' (n + k) c' _ rfl HR.out wr.heap.size 1 ⟨s + k, C.extract (128 * k) (128 * k + 128), wt⟩ rfl m1 m2 m3 (by omega) HB.out _ rfl ?_; intro g cap' w2 hr2 hb2)
      go_roundw
      case rel =>
        refine ⟨k + 1, some ⟨g, 0, none⟩, n + k + 1, cap', by omega, rfl, by go_num, by omega, ?_, ?_⟩
        · have e2 : L ++ pp s C wt k ++ [⟨s + k, C.extract (128 * k) (128 * k + 128), wt⟩] = L ++ pp s C wt (k + 1) := by rw [pp_next, List.append_assoc]
          rw [← e2]
          exact hr2
        · exact hx'.trans (((grow _ _).mono (Nat.le_trans hB hx'.size)).trans hb2)
      case measure => simp [intOf]; omega
    · obtain rfl : k = P := by omega
      go_wp2_with fail
      go_ret
      exact ⟨⟨_, _, _, rfl, hr'⟩, hx'⟩
end Xe
end Go.Proofs.Ytkbelpkmlmfedaa
