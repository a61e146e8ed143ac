/-
  THE WALKS of a strings.Builder that a call has made itself, and of a row as bytes, as the code writes it.
-/
import Derived.Test.YtkbelpkmlmfedaaNt
import Derived.Test.YtkbelpkmlmfedaaSh
namespace Go.Proofs.Ytkbelpkmlmfedaa
set_option linter.unusedVariables false
set_option maxRecDepth 100000
set_option linter.unusedSimpArgs false
open Go.RowKit
namespace Nm
/-- a builder of the call's own, used, that holds these bytes -/
def Bld (w : World) (B b : Nat) (l : List UInt8) : Prop := Lib.BuilderAt 107 5 B b (.pointer (some ⟨b, 0, none⟩)) (Lib.byteCells l) w
theorem info5b : (Try.prog.info? 5).map (fun i => (i.zero, i.size, i.bytes)) = some (some (.int .u8 0), 1, 1) := by kernel_rfl
theorem size52 : (Try.prog.info? 107).map (·.size) = some 2 := by kernel_rfl
theorem Bld.dr {w w' : World} {B b : Nat} {l : List UInt8} (h : Bld w B b l) (hd : Dr w w') : Bld w' B b l := by
  obtain ⟨k, rfl⟩ := hd
  exact h
set_option maxHeartbeats 400000 in
theorem check_any (b : Nat) (w : World) (hc : w.cell? ⟨b, 0, none⟩ = some (.pointer (some ⟨b, 0, none⟩))) :
    Calls Try.prog 78 #[.pointer (some ⟨b, 0, none⟩)] w fun e w' => e = .returned (.tuple #[]) ∧ w = w' := by
  obtain ⟨j, hj, _⟩ := Option.map_eq_some_iff.1 size52
  go_enter Try.func78, Try.ntmps78
  go_wp2
  rw [Lib.run_neq_ptr_same w _ Try.underlying105 hj]
  go_wp2
  go_end0
  exact ⟨rfl, rfl⟩
set_option maxHeartbeats 1000000 in
theorem wstring_any (B b : Nat) (l : List UInt8) (s : ByteArray) (w : World) (h : Bld w B b l) (hlen : l.length + s.size ≤ 4000000000) (hB : B ≤ w.heap.size) :
    Calls Try.prog 69 #[.pointer (some ⟨b, 0, none⟩), .string s] w fun e w' => e = .returned (.tuple #[.int .i64 s.size, .nilIface]) ∧ Bld w' B b (l ++ toL s) ∧ Below B w w' := by
  obtain ⟨hBb, v, hbk, hown, hne⟩ := h
  obtain ⟨i0, hi, hz0, hz1, hz2⟩ := info_parts info5b
  have c0 : w.cell? ⟨b, 0, none⟩ = some (.pointer (some ⟨b, 0, none⟩)) := by simp [World.cell?, hbk]
  have c1 : w.cell? ⟨b, 1, none⟩ = some v := by simp [World.cell?, hbk]
  have hlt := lt_of_block hbk
  have HB := Lib.hid hbk
  have HNE := Lib.hid hne
  have hvs : ∃ a n c, v = .slice a n c := by
    rcases hown.2 with ⟨e, _⟩ | ⟨g, cap, cur, e, _⟩
    · exact ⟨_, _, _, e⟩
    · exact ⟨_, _, _, e⟩
  obtain ⟨va, vn, vc, rfl⟩ := hvs
  clear hbk hne
  go_enter Try.func69, Try.ntmps69
  go_wp2_with (first | (go_at_call 78; refine (check_any _ _ c0).mono ?_; rintro e w' ⟨rfl, rfl⟩) | (at_builtin; go_must (refine Lib.wpList_append_own_string _ rfl (.tmp 12) (.tmp 13) 104 9 rfl B 5 i0 Try.underlying104 Try.underlying9 hi hz0 hz1 hz2 _ _ _ rfl hown s rfl ?c3 ?c4 ?c5 ?_); go_must (case c3 => (rw [Lib.byteCells_length]; unfold maxLen; omega)); go_must (case c4 => (rw [Lib.byteCells_length]; omega)); go_must (case c5 => exact hB); intro v' w2 hown' hgrow _; have hb2 : w2.heap[b]? = some (.cells #[.pointer (some ⟨b, 0, none⟩), .slice va vn vc] 107 (0, 0)) := (by rw [hgrow.block b hlt (fun e => HNE.out e.symm)]; exact HB.out); have d1 : w2.cell? ⟨b, 1, none⟩ = some (.slice va vn vc) := (by simp [World.cell?, hb2]); have f1 : w2.frozen? ⟨b, 1, none⟩ = false := (by simp [World.frozen?, hb2]); have hvf : ∃ a n c, v' = .slice a n c := (by rcases hown'.2 with ⟨e, _⟩ | ⟨g, cap, cur, e, _⟩; exact ⟨_, _, _, e⟩; exact ⟨_, _, _, e⟩); obtain ⟨wa, wn, wc, hv'⟩ := hvf; rw [hv'] at hown' ⊢; have HB2 := Lib.hid hb2; clear hb2 hv'))
  go_ret2
  refine ⟨rfl, ?_, ?_⟩
  · have e : Lib.byteCells (l ++ toL s) = Lib.byteCells l ++ Lib.strCells s := by simp [Lib.byteCells, Lib.strCells, toL]
    unfold Bld
    rw [e]
    exact Lib.BuilderAt.put (T := 107) (e := 5) hBb HB2.out (by simpa [Lib.strCells_length] using hown') (by decide)
  · exact ((Below.refl B w).grown hgrow hB (fun k hk => (hown.lt k hk).1)).setCell (p := ⟨b, 1, none⟩) hBb _
theorem low_or (n : Nat) : bits .or .u8 ((n : Int) % 256) 128 = ((n % 128 + 128 : Nat) : Int) := by
  rw [show ((n : Int) % 256) = ((n % 256 : Nat) : Int) from by omega, show (128 : Int) = ((128 : Nat) : Int) from rfl, u8_or_nat _ _ (by omega) (by omega)]
  have d : ∀ x, x < 256 → x ||| 128 = x % 128 + 128 := by decide +kernel
  rw [d (n % 256) (by omega), show n % 256 % 128 = n % 128 from by omega]
/-- how many bytes a row takes at most -/
def room (l : List ByteArray) : Nat := (l.map fun s => s.size + 5).sum
theorem room_take (l : List ByteArray) (k : Nat) (h : k < l.length) : room (l.take (k + 1)) = room (l.take k) + ((nth l k).size + 5) := by
  unfold room
  rw [List.take_succ_eq_append_getElem h, List.map_append, List.sum_append, nth_eq h]
  simp
theorem room_le (l : List ByteArray) (k : Nat) : room (l.take k) ≤ room l := by
  have e : l = l.take k ++ l.drop k := (List.take_append_drop k l).symm
  have : room l = room (l.take k) + room (l.drop k) := by
    unfold room
    rw [← List.sum_append, ← List.map_append, ← e]
  omega
theorem lenB_length_le : ∀ (f n : Nat), n < 128 ^ f → 0 < f → (Nu.lenB n).length ≤ f
  | 0, n, h, h0 => by omega
  | f + 1, n, h, _ => by
    by_cases hs : n < 128
    · rw [Nu.lenB_small hs]; simp
    · rw [Nu.lenB_great hs]
      have h1 : n / 128 < 128 ^ f := by
        rw [Nat.pow_succ] at h
        exact Nat.div_lt_of_lt_mul (by rw [Nat.mul_comm]; exact h)
      have h2 : 0 < f := by
        rcases Nat.eq_zero_or_pos f with h0 | h0
        · subst h0; simp at h1; omega
        · exact h0
      have := lenB_length_le f (n / 128) h1 h2
      simp; omega
theorem rowB_length_le : ∀ l : List ByteArray, room l ≤ 1000000000 → (Nu.rowB (l.map toL)).length ≤ room l
  | [], _ => by simp [Nu.rowB_nil]
  | s :: l, h => by
    have e : room (s :: l) = s.size + 5 + room l := by simp [room]
    rw [e] at h ⊢
    have ih := rowB_length_le l (by omega)
    have h1 := lenB_length_le 5 s.size (by omega) (by omega)
    rw [List.map_cons, Nu.rowB_cons]
    simp [toL_length]
    omega
theorem rowB_take (l : List ByteArray) (k : Nat) (h : k < l.length) : Nu.rowB ((l.take (k + 1)).map toL) = Nu.rowB ((l.take k).map toL) ++ Nu.lenB (nth l k).size ++ toL (nth l k) := by
  rw [List.take_succ_eq_append_getElem h, List.map_append, List.map_cons, List.map_nil, Nu.rowB_snoc, nth_eq h, toL_length, List.append_assoc]
end Nm
end Go.Proofs.Ytkbelpkmlmfedaa
