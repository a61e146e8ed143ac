/-
  Bytes as texts; THE WALK of a block's sixteen numbers, of the code.
-/
import Derived.Test.YtaoaebdjinlcnaaDoorAr
import Derived.RegionTactic
import Derived.BigRegion
import Derived.Deep.OwnRows
import Derived.Deep.AppendLies
import Derived.Maps.AppendAt
set_option linter.unusedVariables false
set_option linter.unusedSimpArgs false
set_option maxRecDepth 100000
namespace Go.Proofs.YtaoaebdjinlcnaaDoor
open Go.RowKit
/-- bytes as a text -/
def bs (L : List Nat) : ByteArray := ⟨(L.map UInt8.ofNat).toArray⟩
/-- a text's bytes as numbers -/
def tn (s : ByteArray) : List Nat := s.data.toList.map UInt8.toNat
theorem bs_size (L : List Nat) : (bs L).size = L.length := by simp [bs, ByteArray.size]
theorem tn_length (s : ByteArray) : (tn s).length = s.size := by simp [tn]
theorem tn_by (s : ByteArray) : Bl.By (tn s) := fun x hx => by
  obtain ⟨c, _, rfl⟩ := List.mem_map.1 hx
  exact UInt8.toNat_lt c
theorem tn_get (s : ByteArray) {i : Nat} (h : i < s.size) : s[i].toNat = Bl.nth (tn s) i := by
  rw [Bl.nth_lt (by rw [tn_length]; exact h)]
  simp [tn]
  rfl
theorem bs_tn (s : ByteArray) : bs (tn s) = s := by
  unfold bs tn
  rw [List.map_map]
  have : (UInt8.ofNat ∘ UInt8.toNat) = id := by funext x; simp
  rw [this, List.map_id]
theorem tn_bs {L : List Nat} (h : Bl.By L) : tn (bs L) = L := by
  unfold bs tn
  simp only [List.map_map]
  rw [List.map_congr_left (g := id) (fun x hx => by simp; exact h x hx), List.map_id]
theorem bs_get {L : List Nat} (hL : Bl.By L) {i : Nat} (h : i < L.length) : ((bs L)[i]'(by rw [bs_size]; exact h)).toNat = Bl.nth L i := by
  rw [tn_get, tn_bs hL]
theorem bs_append (a b : List Nat) : bs (a ++ b) = bs a ++ bs b := by
  apply ByteArray.ext
  simp [bs]
theorem tn_append (a b : ByteArray) : tn (a ++ b) = tn a ++ tn b := by
  unfold tn
  simp
theorem tn_extract (s : ByteArray) (a b : Nat) : tn (s.extract a b) = ((tn s).take b).drop a := by
  unfold tn
  rw [ByteArray.data_extract]
  simp only [Array.toList_extract, List.extract_eq_take_drop, List.map_take, List.map_drop, List.take_drop]
  by_cases h : a ≤ b
  · rw [show a + (b - a) = b from by omega]
  · rw [List.drop_eq_nil_of_le (by rw [List.length_take]; omega), List.drop_eq_nil_of_le (by rw [List.length_take]; omega)]
theorem bs_conv (W : World) (g : Nat) (t : TypeId) (L : List Nat) (n : Nat) (hn : L.length = n) (h : Own W g t (vs .u8 L)) : (convert 45 9 (.slice (some ⟨g, 0, none⟩) n n)).run Tryd.prog W = .ok (.string (bs L)) W := by
  subst hn
  have e := run_convert_bytes_arg W 45 5 Tryd.underlying45 Tryd.underlying5 g 0 L.length L.length (L.map fun (x : Nat) => (x : Int)) (by simp) (fun i hi => by
    rw [Nat.zero_add, h.cell hi, Bl.nth_lt hi]
    simp [List.getD_eq_getElem?_getD, hi]) 9 Tryd.underlying9
  rw [e]
  unfold strOfNums bs
  simp [List.map_map, Function.comp_def]
theorem word_or (a b c d : Nat) (ha : a < 256) (hb : b < 256) (hc : c < 256) : ((a ||| b * 256) ||| c * 65536) ||| d * 16777216 = a + 256 * b + 65536 * c + 16777216 * d := by
  have e1 : a ||| b * 256 = b * 256 + a := by
    rw [show b * 256 = b <<< 8 from by rw [Nat.shiftLeft_eq], Nat.or_comm, ← Nat.shiftLeft_add_eq_or_of_lt ha]
  have e2 : (b * 256 + a) ||| c * 65536 = c * 65536 + (b * 256 + a) := by
    rw [show c * 65536 = c <<< 16 from by rw [Nat.shiftLeft_eq], Nat.or_comm, ← Nat.shiftLeft_add_eq_or_of_lt (show b * 256 + a < 2 ^ 16 from by omega)]
  have e3 : (c * 65536 + (b * 256 + a)) ||| d * 16777216 = d * 16777216 + (c * 65536 + (b * 256 + a)) := by
    rw [show d * 16777216 = d <<< 24 from by rw [Nat.shiftLeft_eq], Nat.or_comm, ← Nat.shiftLeft_add_eq_or_of_lt (show c * 65536 + (b * 256 + a) < 2 ^ 24 from by omega)]
  rw [e1, e2, e3]; omega
theorem words_length (K : List Nat) : (Bl.words K).length = 16 := by simp [Bl.words]
theorem words_nth (K : List Nat) {i : Nat} (h : i < 16) : Bl.nth (Bl.words K) i = Bl.word K (4 * i) := by
  rw [Bl.nth_lt (by rw [words_length]; exact h)]; simp [Bl.words]
theorem ext_get (s : ByteArray) (a b i : Nat) (hb : b ≤ s.size) (hi : a + i < b) (h : i < (s.extract a b).size) : ((s.extract a b)[i]).toNat = Bl.nth (tn s) (a + i) := by
  rw [tn_get, tn_extract]
  unfold Bl.nth
  rw [List.getD_eq_getElem?_getD, List.getD_eq_getElem?_getD, List.getElem?_drop, List.getElem?_take_of_lt hi]
set_option maxRecDepth 100000 in
set_option maxHeartbeats 4000000 in
theorem words_any (s : ByteArray) (hs : s.size = 64) (w : World) :
    Calls Tryd.prog 85 #[.string s] w fun e w' => e = .returned (.agg (vs .u32 (Bl.words (tn s)))) ∧ Below w.heap.size w w' := by
  have lX := words_length (tn s)
  have hXn := fun i (h : i < 16) => words_nth (tn s) h
  generalize Bl.words (tn s) = X at *
  obtain ⟨W0, hW0⟩ : ∃ W0, W0 = (w.alloc (Obj.cells (vs .u32 (List.replicate 16 0)) 110)).alloc (Obj.cells (vs .u32 (List.replicate 16 0)) 110) := ⟨_, rfl⟩
  have o0 : Own W0 w.heap.size 110 (vs .u32 (List.replicate 16 0)) := by rw [hW0]; exact (Own.new' _ _ _ rfl).alloc _
  have o1 : Own W0 (w.heap.size + 1) 110 (vs .u32 (prn 16 X 0)) := by rw [hW0, prn_zero]; exact Own.new' _ _ _ (by simp)
  have hb0 : Below w.heap.size w W0 := by rw [hW0]; exact ((Below.refl _ w).alloc (by simp) _).alloc (by simp) _
  have HW0 := Lib.hid hW0
  clear hW0
  go_enter Tryd.func85, Tryd.ntmps85
  go_wp2_with fail
  change Code.wp _ _ _ _ ((w.alloc (Obj.cells (vs .u32 (List.replicate 16 0)) 110)).alloc (Obj.cells (vs .u32 (List.replicate 16 0)) 110))
  rw [← HW0.out]
  clear HW0
  have HX := Lib.hid (And.intro o0 (And.intro hb0 hXn))
  clear o0 hb0 hXn
  generalize W0 = wx at *
  generalize hBB : w.heap.size = B at *
  go_loopw [6] (fun i' wr => ∃ k : Nat, k ≤ 16 ∧ i' = .int .i64 k ∧ Own wr (B + 1) 110 (vs .u32 (prn 16 X k)) ∧ Only (B + 1) wx wr) (fun i _ => 16 - (intOf i).toNat)
  case atStart => exact ⟨0, by omega, rfl, o1, Only.refl _ _⟩
  case round =>
    clear o1
    obtain ⟨k, hk, rfl, oV, ho⟩ := hrel
    generalize wr = wo at *
    by_cases hlt : k < 16
    · have hkI : (k : Int) < 16 := by omega
      have hX := HX.out.2.2 k hlt
      have e0 : IntKind.i64.wrap (4 * (k : Int)) = 4 * (k : Int) := IntWalk.i64_in _ (by omega)
      have e4 : IntKind.i64.wrap (4 * (k : Int) + 4) = 4 * (k : Int) + 4 := IntWalk.i64_in _ (by omega)
      have i4 : 4 * (k : Int) + 4 ≤ (s.size : Int) := by omega
      obtain ⟨b, hb⟩ : ∃ b, b = s.extract (4 * k) (4 * k + 4) := ⟨_, rfl⟩
      have hz : b.size = 4 := by rw [hb, ByteArray.size_extract]; omega
      have n0 : b[0].toNat = Bl.nth (tn s) (4 * k + 0) := by simp only [hb]; exact ext_get s (4 * k) (4 * k + 4) 0 (by omega) (by omega) _
      have n1 : b[1].toNat = Bl.nth (tn s) (4 * k + 1) := by simp only [hb]; exact ext_get s (4 * k) (4 * k + 4) 1 (by omega) (by omega) _
      have n2 : b[2].toNat = Bl.nth (tn s) (4 * k + 2) := by simp only [hb]; exact ext_get s (4 * k) (4 * k + 4) 2 (by omega) (by omega) _
      have n3 : b[3].toNat = Bl.nth (tn s) (4 * k + 3) := by simp only [hb]; exact ext_get s (4 * k) (4 * k + 4) 3 (by omega) (by omega) _
      go_wp2_with fail
      rw [← hb]
      clear e0 e4 i4 hb
      have b0 : b[0].toNat < 256 := UInt8.toNat_lt _
      have b1 : b[1].toNat < 256 := UInt8.toNat_lt _
      have b2 : b[2].toNat < 256 := UInt8.toNat_lt _
      have b3 : b[3].toNat < 256 := UInt8.toNat_lt _
      have h1 : bits .or .u32 (b[0].toNat : Int) ((b[1].toNat : Int) * 256) = ((b[0].toNat ||| b[1].toNat * 256 : Nat) : Int) := u32_or_nat _ (b[1].toNat * 256) (by omega) (by omega)
      have l1 : b[0].toNat ||| b[1].toNat * 256 < 65536 := Nat.or_lt_two_pow (n := 16) (by omega) (by omega)
      have h2 : bits .or .u32 ((b[0].toNat ||| b[1].toNat * 256 : Nat) : Int) ((b[2].toNat : Int) * 65536) = (((b[0].toNat ||| b[1].toNat * 256) ||| b[2].toNat * 65536 : Nat) : Int) := u32_or_nat _ (b[2].toNat * 65536) (by omega) (by omega)
      have l2 : (b[0].toNat ||| b[1].toNat * 256) ||| b[2].toNat * 65536 < 16777216 := Nat.or_lt_two_pow (n := 24) (by omega) (by omega)
      have h3 : bits .or .u32 (((b[0].toNat ||| b[1].toNat * 256) ||| b[2].toNat * 65536 : Nat) : Int) ((b[3].toNat : Int) * 16777216) = ((((b[0].toNat ||| b[1].toNat * 256) ||| b[2].toNat * 65536) ||| b[3].toNat * 16777216 : Nat) : Int) := u32_or_nat _ (b[3].toNat * 16777216) (by omega) (by omega)
      have hv : ((b[0].toNat ||| b[1].toNat * 256) ||| b[2].toNat * 65536) ||| b[3].toNat * 16777216 = Bl.nth X k := by
        rw [word_or _ _ _ _ b0 b1 b2, n0, n1, n2, n3]; exact hX.symm
      rw [hv] at h3
      clear hv l1 l2 n0 n1 n2 n3 hX
      have zi : (b.size : Int) = 4 := by omega
      have cs := oV.drew.cell (i := k) (by rw [prn_length lX (by omega)]; exact hlt)
      have z1 := oV.drew.frozen k
      have st := (oV.set k (Bl.nth X k)).drew
      have hw := (ho.set k (.int .u32 (Bl.nth X k : Nat))).drew
      rw [prn_next lX hlt] at st
      clear oV ho
      go_region
      go_wp2_with fail
      go_roundw
      case rel => exact ⟨k + 1, by omega, by go_num, st, hw⟩
      case measure => simp [intOf]; omega
    · obtain rfl : k = 16 := by omega
      simp only [show ((16 : Nat) : Int) = 16 from rfl]
      rw [prn_all lX] at oV
      have oR := ho.own HX.out.1 (by omega)
      have hb := HX.out.2.1.trans (ho.below (by omega))
      go_wp2_with (first | (refine ld t63 rfl rfl rfl oV lX ?_) | (refine sto t63 rfl rfl rfl rfl oR rfl lX ?_))
      refine ret_arr t63 rfl rfl (oR.row _) lX rfl ⟨rfl, by rw [hBB]; exact below_row hb (by omega) _⟩
end Go.Proofs.YtaoaebdjinlcnaaDoor
