/-
  THE WALKS of a strings.Builder that a call has made itself, and of a row as bytes, as the code writes it.
-/
import Derived.Test.YtaoaebdjinlcnaaDoorUNt
import Derived.Test.YtaoaebdjinlcnaaDoorSh
set_option linter.unusedVariables false
set_option linter.unusedSimpArgs false
set_option maxRecDepth 100000
namespace Go.Proofs.YtaoaebdjinlcnaaDoor.Un
open Go.RowKit
namespace Nm
/-- a builder of the call's own, used, that holds these bytes -/
def Bld (w : World) (B b : Nat) (l : List UInt8) : Prop := Lib.BuilderAt 74 5 B b (.pointer (some ⟨b, 0, none⟩)) (Lib.byteCells l) w
theorem info5b : (Tryd.prog.info? 5).map (fun i => (i.zero, i.size, i.bytes)) = some (some (.int .u8 0), 1, 1) := by kernel_rfl
theorem size52 : (Tryd.prog.info? 74).map (·.size) = some 2 := by kernel_rfl
theorem Bld.dr {w w' : World} {B b : Nat} {l : List UInt8} (h : Bld w B b l) (hd : Dr w w') : Bld w' B b l := by
  obtain ⟨k, rfl⟩ := hd
  exact h
set_option maxRecDepth 100000 in
set_option maxHeartbeats 400000 in
theorem check_any (b : Nat) (w : World) (hc : w.cell? ⟨b, 0, none⟩ = some (.pointer (some ⟨b, 0, none⟩))) :
    Calls Tryd.prog 66 #[.pointer (some ⟨b, 0, none⟩)] w fun e w' => e = .returned (.tuple #[]) ∧ w = w' := by
  obtain ⟨j, hj, _⟩ := Option.map_eq_some_iff.1 size52
  go_enter Tryd.func66, Tryd.ntmps66
  go_wp2
  rw [Lib.run_neq_ptr_same w _ Tryd.underlying72 hj]
  go_wp2
  go_end0
  exact ⟨rfl, rfl⟩
set_option maxRecDepth 100000 in
set_option maxHeartbeats 1000000 in
theorem wbyte_any (B b : Nat) (l : List UInt8) (c : Nat) (w : World) (h : Bld w B b l) (hc : c < 256) (hlen : l.length ≤ 4000000000) (hB : B ≤ w.heap.size) :
    Calls Tryd.prog 68 #[.pointer (some ⟨b, 0, none⟩), .int .u8 (c : Int)] w fun e w' => e = .returned .nilIface ∧ Bld w' B b (l ++ [UInt8.ofNat c]) ∧ Below B w w' := by
  obtain ⟨hBb, v, hbk, hown, hne⟩ := h
  obtain ⟨i0, hi, hz0, hz1, hz2⟩ := info_parts info5b
  have c0 : w.cell? ⟨b, 0, none⟩ = some (.pointer (some ⟨b, 0, none⟩)) := by simp [World.cell?, hbk]
  have c1 : w.cell? ⟨b, 1, none⟩ = some v := by simp [World.cell?, hbk]
  have hlt := lt_of_block hbk
  have HB := Lib.hid hbk
  have HNE := Lib.hid hne
  have hvs : ∃ a n c, v = .slice a n c := by
    rcases hown.2 with ⟨e, _⟩ | ⟨g, cap, cur, e, _⟩
    · exact ⟨_, _, _, e⟩
    · exact ⟨_, _, _, e⟩
  obtain ⟨va, vn, vc, rfl⟩ := hvs
  clear hbk hne
  go_enter Tryd.func68, Tryd.ntmps68
  go_wp2_with (first | (go_at_call 66; refine (check_any _ _ c0).mono ?_; rintro e w' ⟨rfl, rfl⟩) | (at_builtin; go_must (refine wpList_append_own _ rfl (.tmp 11) (.tmp 13) 45 rfl B 5 i0 (.int .u8 0) 1 1 Tryd.underlying45 hi hz0 hz1 hz2 rfl (by decide) _ _ _ rfl (hown.alloc _) ⟨w.heap.size, 0, none⟩ 1 1 [.int .u8 (c : Int)] rfl rfl ?c1 ?c2 ?c3 ?c4 ?c5 ?_); go_must (case c1 => exact cell_one_new _ _ _); go_must (case c2 => (intro u hu; simp at hu; subst hu; rfl)); go_must (case c3 => (rw [Lib.byteCells_length]; unfold maxLen; omega)); go_must (case c4 => (rw [Lib.byteCells_length]; omega)); go_must (case c5 => (simp; omega)); intro v' w2 hown' hgrow _; have hb2 : w2.heap[b]? = some (.cells #[.pointer (some ⟨b, 0, none⟩), .slice va vn vc] 74 (0, 0)) := (by rw [hgrow.block b (by simp; omega) (fun e => HNE.out e.symm), Below.heap_alloc _ _ _ hlt]; exact HB.out); have d1 : w2.cell? ⟨b, 1, none⟩ = some (.slice va vn vc) := (by simp [World.cell?, hb2]); have f1 : w2.frozen? ⟨b, 1, none⟩ = false := (by simp [World.frozen?, hb2]); have hvf := hown'.form (by omega); obtain ⟨g, cap, hv', _, _⟩ := hvf; rw [hv'] at hown' ⊢; have HB2 := Lib.hid hb2; clear hb2 hv'))
  go_ret
  refine ⟨rfl, ?_, ?_⟩
  · have hcc : (UInt8.ofNat c).toNat = c := Nu.toNat_ofNat hc
    have e : Lib.byteCells (l ++ [UInt8.ofNat c]) = Lib.byteCells l ++ [.int .u8 (c : Int)] := by simp [Lib.byteCells, Nat.mod_eq_of_lt hc]
    unfold Bld
    rw [e]
    exact Lib.BuilderAt.put (T := 74) (e := 5) hBb HB2.out (by simpa using hown') (by decide)
  · exact (((Below.refl B w).alloc hB _).grown hgrow (by simp; omega) (fun k hk => (hown.lt k hk).1)).setCell (p := ⟨b, 1, none⟩) hBb _
set_option maxRecDepth 100000 in
set_option maxHeartbeats 1000000 in
theorem wstring_any (B b : Nat) (l : List UInt8) (s : ByteArray) (w : World) (h : Bld w B b l) (hlen : l.length + s.size ≤ 4000000000) (hB : B ≤ w.heap.size) :
    Calls Tryd.prog 52 #[.pointer (some ⟨b, 0, none⟩), .string s] w fun e w' => e = .returned (.tuple #[.int .i64 s.size, .nilIface]) ∧ Bld w' B b (l ++ toL s) ∧ Below B w w' := by
  obtain ⟨hBb, v, hbk, hown, hne⟩ := h
  obtain ⟨i0, hi, hz0, hz1, hz2⟩ := info_parts info5b
  have c0 : w.cell? ⟨b, 0, none⟩ = some (.pointer (some ⟨b, 0, none⟩)) := by simp [World.cell?, hbk]
  have c1 : w.cell? ⟨b, 1, none⟩ = some v := by simp [World.cell?, hbk]
  have hlt := lt_of_block hbk
  have HB := Lib.hid hbk
  have HNE := Lib.hid hne
  have hvs : ∃ a n c, v = .slice a n c := by
    rcases hown.2 with ⟨e, _⟩ | ⟨g, cap, cur, e, _⟩
    · exact ⟨_, _, _, e⟩
    · exact ⟨_, _, _, e⟩
  obtain ⟨va, vn, vc, rfl⟩ := hvs
  clear hbk hne
  go_enter Tryd.func52, Tryd.ntmps52
  go_wp2_with (first | (go_at_call 66; refine (check_any _ _ c0).mono ?_; rintro e w' ⟨rfl, rfl⟩) | (at_builtin; go_must (refine Lib.wpList_append_own_string _ rfl (.tmp 12) (.tmp 13) 45 9 rfl B 5 i0 Tryd.underlying45 Tryd.underlying9 hi hz0 hz1 hz2 _ _ _ rfl hown s rfl ?c3 ?c4 ?c5 ?_); go_must (case c3 => (rw [Lib.byteCells_length]; unfold maxLen; omega)); go_must (case c4 => (rw [Lib.byteCells_length]; omega)); go_must (case c5 => exact hB); intro v' w2 hown' hgrow _; have hb2 : w2.heap[b]? = some (.cells #[.pointer (some ⟨b, 0, none⟩), .slice va vn vc] 74 (0, 0)) := (by rw [hgrow.block b hlt (fun e => HNE.out e.symm)]; exact HB.out); have d1 : w2.cell? ⟨b, 1, none⟩ = some (.slice va vn vc) := (by simp [World.cell?, hb2]); have f1 : w2.frozen? ⟨b, 1, none⟩ = false := (by simp [World.frozen?, hb2]); have hvf : ∃ a n c, v' = .slice a n c := (by rcases hown'.2 with ⟨e, _⟩ | ⟨g, cap, cur, e, _⟩; exact ⟨_, _, _, e⟩; exact ⟨_, _, _, e⟩); obtain ⟨wa, wn, wc, hv'⟩ := hvf; rw [hv'] at hown' ⊢; have HB2 := Lib.hid hb2; clear hb2 hv'))
  go_ret2
  refine ⟨rfl, ?_, ?_⟩
  · have e : Lib.byteCells (l ++ toL s) = Lib.byteCells l ++ Lib.strCells s := by simp [Lib.byteCells, Lib.strCells, toL]
    unfold Bld
    rw [e]
    exact Lib.BuilderAt.put (T := 74) (e := 5) hBb HB2.out (by simpa [Lib.strCells_length] using hown') (by decide)
  · exact ((Below.refl B w).grown hgrow hB (fun k hk => (hown.lt k hk).1)).setCell (p := ⟨b, 1, none⟩) hBb _
theorem low_or (n : Nat) : bits .or .u8 ((n : Int) % 256) 128 = ((n % 128 + 128 : Nat) : Int) := by
  rw [show ((n : Int) % 256) = ((n % 256 : Nat) : Int) from by omega, show (128 : Int) = ((128 : Nat) : Int) from rfl, u8_or_nat _ _ (by omega) (by omega)]
  have d : ∀ x, x < 256 → x ||| 128 = x % 128 + 128 := by decide +kernel
  rw [d (n % 256) (by omega), show n % 256 % 128 = n % 128 from by omega]
set_option maxRecDepth 100000 in
set_option maxHeartbeats 1000000 in
theorem plen_any (B b : Nat) (l : List UInt8) (n : Nat) (w : World) (h : Bld w B b l) (hn : n ≤ 1000000000) (hlen : l.length + n ≤ 2000000000) (hB : B ≤ w.heap.size) :
    Calls Tryd.prog 51 #[.pointer (some ⟨b, 0, none⟩), .int .i64 (n : Int)] w fun e w' => e = .returned (.tuple #[]) ∧ Bld w' B b (l ++ Nu.lenB n) ∧ Below B w w' := by
  go_enter Tryd.func51, Tryd.ntmps51
  go_wp2_with fail
  go_loopw [1] (fun v wr => ∃ m done, v = .int .i64 (m : Nat) ∧ m ≤ 1000000000 ∧ Nu.lenB n = done ++ Nu.lenB m ∧ done.length + m ≤ n ∧ Bld wr B b (l ++ done) ∧ Below B w wr) (fun v _ => (intOf v).toNat)
  case atStart => exact ⟨n, [], rfl, hn, rfl, by simp, by simpa using h, Below.refl _ _⟩
  case round =>
    obtain ⟨m, done, rfl, hm, he, hl, hb, hw⟩ := hrel
    have s1 := hw.size
    by_cases hlt : m < 128
    · have HE := Lib.hid he
      clear he
      go_wp2_with fail
      refine (wbyte_any B b (l ++ done) m _ hb (by omega) (by simp; omega) (by omega)).mono ?_
      rintro e w1 ⟨rfl, hb1, hw1⟩
      go_wp2_with fail
      go_end0
      exact ⟨rfl, by rw [HE.out, Nu.lenB_small hlt, ← List.append_assoc]; exact hb1, hw.trans hw1⟩
    · rw [Nu.lenB_great hlt] at he
      have HE := Lib.hid he
      have X := Lib.hid (low_or m)
      clear he
      go_wp2_with fail
      rw [X.out]
      refine (wbyte_any B b (l ++ done) (m % 128 + 128) _ hb (by omega) (by simp; omega) (by omega)).mono ?_
      rintro e w1 ⟨rfl, hb1, hw1⟩
      go_wp2_with fail
      go_roundw
      case rel => exact ⟨m / 128, done ++ [UInt8.ofNat (m % 128 + 128)], by simp, by omega, by rw [HE.out]; simp, by simp; omega, by rw [← List.append_assoc]; exact hb1, hw.trans hw1⟩
      case measure => simp [intOf]; omega
/-- how many bytes a row takes at most -/
def room (l : List ByteArray) : Nat := (l.map fun s => s.size + 5).sum
theorem room_take (l : List ByteArray) (k : Nat) (h : k < l.length) : room (l.take (k + 1)) = room (l.take k) + ((nth l k).size + 5) := by
  unfold room
  rw [List.take_succ_eq_append_getElem h, List.map_append, List.sum_append, nth_eq h]
  simp
theorem room_le (l : List ByteArray) (k : Nat) : room (l.take k) ≤ room l := by
  have e : l = l.take k ++ l.drop k := (List.take_append_drop k l).symm
  have : room l = room (l.take k) + room (l.drop k) := by
    unfold room
    rw [← List.sum_append, ← List.map_append, ← e]
  omega
theorem lenB_length_le : ∀ (f n : Nat), n < 128 ^ f → 0 < f → (Nu.lenB n).length ≤ f
  | 0, n, h, h0 => by omega
  | f + 1, n, h, _ => by
    by_cases hs : n < 128
    · rw [Nu.lenB_small hs]; simp
    · rw [Nu.lenB_great hs]
      have h1 : n / 128 < 128 ^ f := by
        rw [Nat.pow_succ] at h
        exact Nat.div_lt_of_lt_mul (by rw [Nat.mul_comm]; exact h)
      have h2 : 0 < f := by
        rcases Nat.eq_zero_or_pos f with h0 | h0
        · subst h0; simp at h1; omega
        · exact h0
      have := lenB_length_le f (n / 128) h1 h2
      simp; omega
theorem rowB_length_le : ∀ l : List ByteArray, room l ≤ 1000000000 → (Nu.rowB (l.map toL)).length ≤ room l
  | [], _ => by simp [Nu.rowB_nil]
  | s :: l, h => by
    have e : room (s :: l) = s.size + 5 + room l := by simp [room]
    rw [e] at h ⊢
    have ih := rowB_length_le l (by omega)
    have h1 := lenB_length_le 5 s.size (by omega) (by omega)
    rw [List.map_cons, Nu.rowB_cons]
    simp [toL_length]
    omega
theorem rowB_take (l : List ByteArray) (k : Nat) (h : k < l.length) : Nu.rowB ((l.take (k + 1)).map toL) = Nu.rowB ((l.take k).map toL) ++ Nu.lenB (nth l k).size ++ toL (nth l k) := by
  rw [List.take_succ_eq_append_getElem h, List.map_append, List.map_cons, List.map_nil, Nu.rowB_snoc, nth_eq h, toL_length, List.append_assoc]
set_option maxRecDepth 100000 in
set_option maxHeartbeats 1000000 in
theorem row_any (A : Option Addr) (len cap : Nat) (l : List ByteArray) (w : World) (hl : Ts w A len l) (hsz : room l ≤ 1000000000) (hlen : len ≤ 200000000) :
    Calls Tryd.prog 31 #[.slice A len cap] w fun e w' => e = .returned (.string ⟨(Nu.rowB (l.map toL)).toArray⟩) ∧ Below w.heap.size w w' := by
  have H1 := Lib.hid hl.1
  go_enter Tryd.func31, Tryd.ntmps31
  go_wp2_with fail
  go_loop [3, 11] (fun z i => ∃ k : Nat, k ≤ len ∧ i = .int .i64 k ∧ z = .int .i64 (room (l.take k) : Nat)) (fun _ i => len - (intOf i).toNat)
  case atStart => exact ⟨0, Nat.zero_le _, rfl, rfl⟩
  case round =>
    obtain ⟨k, hk, rfl, rfl⟩ := hrel
    have r1 := room_le l k
    by_cases hlt : k < len
    · obtain ⟨b, off, rfl, hc⟩ := hl.2 (by omega)
      have c1 := hc k hlt
      have r2 := room_take l k (by have := H1.out; omega)
      have r3 := room_le l (k + 1)
      have b1 : room (l.take k) + (nth l k).size + 5 ≤ 1000000000 := by omega
      have R2 := Lib.hid r2
      clear hc r2 r3
      go_wp2_with fail
      go_round
      case rel => exact ⟨k + 1, by omega, by go_num, by rw [R2.out]; go_num⟩
      case measure => simp [intOf]; omega
    · obtain rfl : k = len := by omega
      have hz : room (l.take k) = room l := by rw [List.take_of_length_le (by have := H1.out; omega)]
      have hRow := rowB_length_le l hsz
      go_wp2_with fail
      have own0 : (w.alloc (.cells #[.pointer none, .slice none 0 0] 74)).heap[w.heap.size]? = some (.cells #[.pointer none, .slice none 0 0] 74 (0, 0)) := Own.new _ _ _
      refine (Tryd.Builder_Grow_fresh w.heap.size w.heap.size (room l) _ (Nat.le_refl _) own0 (by simp) (by omega)).mono ?_
      clear own0
      rintro e w1 ⟨rfl, hb, hw⟩
      have hb0 : Bld w1 w.heap.size w.heap.size [] := hb
      have hw1 : Below w.heap.size w w1 := ((Below.refl _ _).alloc (Nat.le_refl _) _).trans hw
      clear hb hw hz
      go_wp2_with fail
      go_loopw [26] (fun i wr => ∃ j : Nat, j ≤ k ∧ i = .int .i64 j ∧ Bld wr w.heap.size w.heap.size (Nu.rowB ((l.take j).map toL)) ∧ Below w.heap.size w wr) (fun i _ => k - (intOf i).toNat)
      case atStart => exact ⟨0, Nat.zero_le _, rfl, by simpa [Nu.rowB_nil] using hb0, hw1⟩
      case round =>
        obtain ⟨j, hj, rfl, hbj, hwj⟩ := hrel
        have s1 := hwj.size
        by_cases hjl : j < k
        · obtain ⟨b, off, rfl, hc⟩ := hl.2 (by omega)
          have c1 := (hwj.cell (World.block_lt_of_cell? _ _ (hc j hjl))).trans (hc j hjl)
          have r2 := room_take l j (by have := H1.out; omega)
          have r3 := room_le l (j + 1)
          have r4 := rowB_length_le (l.take j) (by have := room_le l j; omega)
          have r5 := lenB_length_le 5 (nth l j).size (by omega) (by omega)
          have R := Lib.hid (rowB_take l j (by have := H1.out; omega))
          have b1 : (Nu.rowB ((l.take j).map toL)).length + (nth l j).size + 5 ≤ 1000000000 := by omega
          clear hc r2 r3 r4
          go_wp2_with fail
          refine (plen_any _ _ _ (nth l j).size _ hbj (by omega) (by omega) s1).mono ?_
          rintro e w2 ⟨rfl, hb2, hw2⟩
          have s2 := hw2.size
          go_wp2_with fail
          refine (wstring_any _ _ _ (nth l j) _ hb2 (by rw [List.length_append]; omega) (by omega)).mono ?_
          rintro e w3 ⟨rfl, hb3, hw3⟩
          go_wp2_with fail
          go_roundw
          case rel => exact ⟨j + 1, by omega, by go_num, by rw [R.out]; exact hb3, (hwj.trans hw2).trans hw3⟩
          case measure => simp [intOf]; omega
        · obtain rfl : j = k := by omega
          have hz : l.take j = l := List.take_of_length_le (by have := H1.out; omega)
          rw [hz] at hbj
          clear hz
          go_wp2_with fail
          refine (Tryd.Builder_String_any w.heap.size w.heap.size _ _ (Or.inr hbj) s1).mono ?_
          rintro e w2 ⟨rfl, hw2⟩
          go_wp2_with fail
          go_ret
          exact ⟨rfl, hwj.trans hw2⟩
end Nm
end Go.Proofs.YtaoaebdjinlcnaaDoor.Un
