/-
  THE WALKS of a number's digits, of the code and of the document's answer.
-/
import Derived.Test.YtgjpopndjnbkaaaDt
import Derived.RegionTactic
import Derived.Deep.RegionWith
import Derived.Deep.OwnRows
import Derived.Deep.AppendLies
import Derived.Maps.AppendAt
namespace Go.Proofs.Ytgjpopndjnbkaaa
open Go.RowKit
def toL (s : ByteArray) : List UInt8 := s.data.toList
theorem toL_length (s : ByteArray) : (toL s).length = s.size := by simp [toL]
theorem toL_inj {a b : ByteArray} (h : toL a = toL b) : a = b := by
  cases a; cases b
  simp [toL] at h
  rw [h]
/-- a number's last K digits -/
def dg (n : Nat) : UInt8 := UInt8.ofNat (48 + n % 10)
def digs (n : Nat) : Nat → List UInt8
  | 0 => []
  | K + 1 => dg (n / 10 ^ K) :: digs n K
theorem digs_length (n : Nat) : ∀ K, (digs n K).length = K
  | 0 => rfl
  | K + 1 => by simp [digs, digs_length n K]
theorem digs_get (n : Nat) : ∀ (K j : Nat) (h : j < (digs n K).length), (digs n K)[j] = dg (n / 10 ^ (K - 1 - j))
  | 0, j, h => by simp [digs] at h
  | K + 1, 0, h => rfl
  | K + 1, j + 1, h => by
    simp only [digs, List.getElem_cons_succ]
    rw [digs_get n K j (by simpa [digs] using h), show K + 1 - 1 - (j + 1) = K - 1 - j from by omega]
def Own (w : World) (g : Nat) (t : TypeId) (cs : Array Value) : Prop := w.heap[g]? = some (.cells cs t (0, 0))
theorem Own.cell {w : World} {g : Nat} {t : TypeId} {cs : Array Value} (h : Own w g t cs) (i : Nat) : w.cell? ⟨g, i, none⟩ = cs[i]? := by
  unfold Own at h; simp [World.cell?, h]
theorem Own.frozen {w : World} {g : Nat} {t : TypeId} {cs : Array Value} (h : Own w g t cs) (i : Nat) : w.frozen? ⟨g, i, none⟩ = false := by
  unfold Own at h; simp [World.frozen?, h]
theorem Own.new (w : World) (t : TypeId) (cs : Array Value) : Own (w.alloc (.cells cs t)) w.heap.size t cs := by
  unfold Own
  show (w.heap.push _)[w.heap.size]? = _
  simp
theorem Own.set {w : World} {g : Nat} {t : TypeId} {cs : Array Value} (h : Own w g t cs) (i : Nat) (u : Value) : Own (w.setCell ⟨g, i, none⟩ u) g t (cs.setIfInBounds i u) := by
  unfold Own at h ⊢
  simp [World.setCell, Array.getElem?_modify, h]
theorem own1 (w : World) (v : Value) (t : TypeId) : (w.alloc (.cells #[v] t)).cell? ⟨w.heap.size, 0, none⟩ = some v := (Own.new w t #[v]).cell 0
theorem info5b : (Try.prog.info? 5).map (fun i => (i.zero, i.size, i.bytes)) = some (some (.int .u8 0), 1, 1) := by kernel_rfl
/-- a block behind so many rounds: from the end on -/
def pu (n K i j : Nat) : Nat := if K ≤ i + j then 48 + n / 10 ^ (K - 1 - j) % 10 else 0
def putArr (n K i : Nat) : Array Value := ((List.range K).map fun j => Value.int .u8 ((pu n K i j : Nat) : Int)).toArray
theorem putArr_get (n K i j : Nat) (hj : j < K) : (putArr n K i)[j]? = some (.int .u8 ((pu n K i j : Nat) : Int)) := by simp [putArr, hj]
theorem putArr_size (n K i : Nat) : (putArr n K i).size = K := by simp [putArr]
theorem putArr_zero (n K : Nat) : madeCells #[.int .u8 0] K = putArr n K 0 := by
  apply Array.ext_getElem?
  intro j
  by_cases hj : j < K
  · rw [putArr_get n K 0 j hj]
    unfold pu
    rw [if_neg (by omega)]
    simp [madeCells, hj, Nat.mod_one]
  · rw [Array.getElem?_eq_none (by simp [madeCells]; omega), Array.getElem?_eq_none (by rw [putArr_size]; omega)]
theorem putArr_next (n K i : Nat) (hi : i < K) : (putArr n K i).setIfInBounds (K - 1 - i) (.int .u8 ((48 + n / 10 ^ i % 10 : Nat) : Int)) = putArr n K (i + 1) := by
  apply Array.ext_getElem?
  intro j
  by_cases hj : j < K
  · rw [putArr_get n K (i + 1) j hj, Array.getElem?_setIfInBounds]
    by_cases h : K - 1 - i = j
    · subst h
      rw [if_pos rfl, if_pos (by rw [putArr_size]; exact hj)]
      unfold pu
      rw [if_pos (by omega), show K - 1 - (K - 1 - i) = i from by omega]
    · rw [if_neg h, putArr_get n K i j hj]
      unfold pu
      by_cases h2 : K ≤ i + j
      · rw [if_pos h2, if_pos (by omega)]
      · rw [if_neg h2, if_neg (by omega)]
  · rw [Array.getElem?_eq_none (by simp [putArr_size]; omega), Array.getElem?_eq_none (by rw [putArr_size]; omega)]
theorem put_nums (n K : Nat) : (((List.range K).map fun j => ((pu n K K j : Nat) : Int)).map fun m => UInt8.ofNat m.toNat) = digs n K := by
  apply List.ext_getElem
  · simp [digs_length]
  · intro j h1 h2
    have hj : j < K := by simpa [digs_length] using h2
    rw [digs_get, List.getElem_map, List.getElem_map, List.getElem_range, Int.toNat_natCast]
    unfold pu dg
    rw [if_pos (by omega)]
theorem put_conv (W : World) (g n K : Nat) (h : Own W g 5 (putArr n K K)) : (convert 40 9 (.slice (some ⟨g, 0, none⟩) K K)).run Try.prog W = .ok (.string ⟨(digs n K).toArray⟩) W := by
  have e := run_convert_bytes_arg W 40 5 Try.underlying40 Try.underlying5 g 0 K K ((List.range K).map fun j => ((pu n K K j : Nat) : Int)) (by simp) (fun i hi => by
    rw [Nat.zero_add, h.cell, putArr_get n K K i hi]
    simp [List.getD_eq_getElem?_getD, hi]) 9 Try.underlying9
  rw [e]
  unfold strOfNums
  rw [put_nums]
theorem conv_new (W : World) (x : Int) : (convert 40 9 (.slice (some ⟨W.heap.size, 0, none⟩) 1 1)).run Try.prog (W.alloc (.cells #[.int .u8 x] 5)) = .ok (.string ⟨#[UInt8.ofNat x.toNat]⟩) (W.alloc (.cells #[.int .u8 x] 5)) := by
  refine run_convert_bytes_arg _ 40 5 Try.underlying40 Try.underlying5 W.heap.size 0 1 1 [x] rfl (fun i hi => ?_) 9 Try.underlying9
  obtain rfl : i = 0 := by omega
  exact own1 _ _ _
theorem str_app (a b : List UInt8) : (⟨a.toArray⟩ : ByteArray) ++ ⟨b.toArray⟩ = ⟨(a ++ b).toArray⟩ := by
  apply toL_inj
  simp [toL]
set_option maxRecDepth 100000 in
set_option maxHeartbeats 1000000 in
theorem digits_any (n K : Nat) (w : World) (hn : n ≤ 9999) (hK : K ≤ 8) : Calls Try.prog 27 #[.int .i64 (n : Int), .int .i64 (K : Int)] w fun e w' => e = .returned (.string ⟨(digs n K).toArray⟩) ∧ Below w.heap.size w w' := by
  have hmk := fun w => run_make_row' 40 5 (.int .u8 0) 1 Try.underlying40 info5b rfl .i64 .i64 K (by omega) (by omega) w
  have HP := Lib.hid (putArr_zero n K)
  have HN := Lib.hid hn
  clear hn
  go_enter Try.func27, Try.ntmps27
  go_wp2_with fail
  go_loopw [0, 11] (fun v i wr => ∃ k : Nat, k ≤ K ∧ i = .int .i64 k ∧ v = .int .i64 ((n / 10 ^ k : Nat) : Int) ∧ Own wr w.heap.size 5 (putArr n K k) ∧ Below w.heap.size w wr) (fun _ i _ => K - (intOf i).toNat)
  case atStart => exact ⟨0, Nat.zero_le _, rfl, by simp, by rw [← HP.out]; exact Own.new _ _ _, (Below.refl _ _).alloc (Nat.le_refl _) _⟩
  case round =>
    obtain ⟨k, hk, rfl, rfl, ho, hw⟩ := hrel
    clear hmk
    by_cases hlt : k < K
    · have c1 := (ho.cell (K - 1 - k)).trans (putArr_get n K k (K - 1 - k) (by omega))
      have f1 := ho.frozen (K - 1 - k)
      have HS := Lib.hid (putArr_next n K k hlt)
      have hdv : n / 10 ^ k / 10 = n / 10 ^ (k + 1) := by rw [Nat.div_div_eq_div_mul, Nat.pow_succ]
      have HD := Lib.hid hdv
      have hv9 : n / 10 ^ k ≤ 9999 := Nat.le_trans (Nat.div_le_self _ _) HN.out
      clear hdv
      generalize hv : n / 10 ^ k = v at *
      have ez : (K : Int) - 1 - (k : Int) = ((K - 1 - k : Nat) : Int) := by omega
      clear hv
      go_wp2_with fail
      go_roundw
      case rel =>
        refine ⟨k + 1, by omega, by go_num, by rw [← HD.out]; rfl, ?_, hw.setCell (Nat.le_refl _) _⟩
        rw [← HS.out]
        exact ho.set _ _
      case measure => simp [intOf]; omega
    · obtain rfl : k = K := by omega
      have cv := put_conv wr w.heap.size n k ho
      go_wp2_with fail
      go_ret
      exact ⟨rfl, hw⟩
set_option maxRecDepth 100000 in
set_option maxHeartbeats 1000000 in
theorem rdigits_any (n K : Nat) (w : World) (hn : n ≤ 9999) (hK : K ≤ 8) : Calls Try.prog 28 #[.int .i64 (n : Int), .int .i64 (K : Int)] w fun e w' => e = .returned (.string ⟨(digs n K).toArray⟩) ∧ Below w.heap.size w w' := by
  have HN := Lib.hid hn
  clear hn
  go_enter Try.func28, Try.ntmps28
  go_wp2_with fail
  go_loopw [0, 5, 6] (fun v z i wr => ∃ k : Nat, k ≤ K ∧ i = .int .i64 k ∧ v = .int .i64 ((n / 10 ^ k : Nat) : Int) ∧ z = .string ⟨(digs n k).toArray⟩ ∧ Below w.heap.size w wr) (fun _ _ i _ => K - (intOf i).toNat)
  case atStart => exact ⟨0, Nat.zero_le _, rfl, by simp, rfl, Below.refl _ _⟩
  case round =>
    obtain ⟨k, hk, rfl, rfl, rfl, hw⟩ := hrel
    by_cases hlt : k < K
    · have hdv : n / 10 ^ k / 10 = n / 10 ^ (k + 1) := by rw [Nat.div_div_eq_div_mul, Nat.pow_succ]
      have HD := Lib.hid hdv
      have HP := Lib.hid (show digs n (k + 1) = dg (n / 10 ^ k) :: digs n k from rfl)
      have hsz : (digs n k).length ≤ 8 := by rw [digs_length]; omega
      have hv9 : n / 10 ^ k ≤ 9999 := Nat.le_trans (Nat.div_le_self _ _) HN.out
      clear hdv
      generalize hv : n / 10 ^ k = v at *
      clear hv
      have cv := conv_new
      go_wp2_with fail
      go_roundw
      case rel =>
        refine ⟨k + 1, by omega, by go_num, by rw [← HD.out]; rfl, ?_, hw.alloc hw.size _⟩
        rw [HP.out, show dg v = 48 + UInt8.ofNat (v % 10) from by unfold dg; simp]
        exact congrArg Value.string (str_app [48 + UInt8.ofNat (v % 10)] _)
      case measure => simp [intOf]; omega
    · obtain rfl : k = K := by omega
      go_wp2_with fail
      go_ret
      exact ⟨rfl, hw⟩
theorem digits_int (x K : Int) (n k : Nat) (w : World) (hx : x = n) (hk : K = k) (hn : n ≤ 9999) (hK : k ≤ 8) : Calls Try.prog 27 #[.int .i64 x, .int .i64 K] w fun e w' => e = .returned (.string ⟨(digs n k).toArray⟩) ∧ Below w.heap.size w w' := by
  subst hx hk; exact digits_any n k w hn hK
theorem rdigits_int (x K : Int) (n k : Nat) (w : World) (hx : x = n) (hk : K = k) (hn : n ≤ 9999) (hK : k ≤ 8) : Calls Try.prog 28 #[.int .i64 x, .int .i64 K] w fun e w' => e = .returned (.string ⟨(digs n k).toArray⟩) ∧ Below w.heap.size w w' := by
  subst hx hk; exact rdigits_any n k w hn hK
/-- the sixteen bytes of a text -/
def txL (y m d h i : Nat) : List UInt8 := digs y 4 ++ [45] ++ digs m 2 ++ [45] ++ digs d 2 ++ [32] ++ digs h 2 ++ [58] ++ digs i 2
def out (n : Int) : Prop := ye (Cal.day n) < 0 ∨ 9999 < ye (Cal.day n)
instance (n : Int) : Decidable (out n) := inferInstanceAs (Decidable (_ ∨ _))
def text (n : Int) : ByteArray := if out n then ⟨#[]⟩ else
  ⟨(txL (ye (Cal.day n)).toNat (mt (Cal.day n) + 1).toNat (dd (Cal.day n) + 1).toNat (n % 1440 / 60).toNat (n % 60).toNat).toArray⟩
theorem text_out {n : Int} (h : out n) : text n = ⟨#[]⟩ := by unfold text; rw [if_pos h]
theorem text_in {n : Int} (h : ¬ out n) : text n = ⟨(txL (ye (Cal.day n)).toNat (mt (Cal.day n) + 1).toNat (dd (Cal.day n) + 1).toNat (n % 1440 / 60).toNat (n % 60).toNat).toArray⟩ := by unfold text; rw [if_neg h]
theorem in_bd {d : Int} (h0 : 0 ≤ ye d) (h1 : ye d ≤ 9999) : -1000000 ≤ d ∧ d ≤ 4000000 := by
  have S := Cal.mo_spec (r := d % 146097) (by omega) (by omega)
  unfold ye at h0 h1
  omega
set_option maxRecDepth 100000 in
set_option maxHeartbeats 1000000 in
theorem text_any (n : Int) (W : World) (h : D0 n) : Calls Try.prog 19 #[.int .i64 n] W fun e w' => e = .returned (.string (text n)) ∧ Below W.heap.size W w' := by
  have hd := h.day
  have hb := date_bd hd.1 hd.2
  have hq : n / 1440 = Cal.day n := rfl
  by_cases ho : out n
  · rw [text_out ho]
    unfold out at ho
    generalize hD : Cal.day n = D at *
    go_enter Try.func19, Try.ntmps19
    go_wp2_with fail
    refine (parted_any _ _ _ h.1 h.2 (by omega) (by omega)).mono ?_
    rintro e w1 ⟨rfl, hd1⟩
    rw [hq]
    go_wp2_with fail
    refine (dat_any _ _ hd.1 hd.2).mono ?_
    rintro e w2 ⟨rfl, hb2⟩
    have hb3 : Below W.heap.size W w2 := hd1.below.trans (hb2.mono (by rw [hd1.size]; exact Nat.le_refl _))
    rcases ho with ho | ho
    · go_wp2
      go_ret
      exact ⟨rfl, hb3⟩
    · have ho' : ¬ ye D < 0 := by omega
      go_wp2
      go_ret
      exact ⟨rfl, hb3⟩
  · have HT := Lib.hid (text_in ho)
    unfold out at ho
    have em : n % 60 = n % 1440 % 60 := by omega
    have l0 : 0 ≤ n % 1440 ∧ n % 1440 < 1440 := by omega
    generalize hD : Cal.day n = D at *
    obtain ⟨Y, hY⟩ := Int.eq_ofNat_of_zero_le (by omega : 0 ≤ ye D)
    obtain ⟨M, hM⟩ := Int.eq_ofNat_of_zero_le hb.2.1.1
    obtain ⟨E, hE⟩ := Int.eq_ofNat_of_zero_le hb.2.2.1
    obtain ⟨L, hL⟩ := Int.eq_ofNat_of_zero_le l0.1
    have ht : text n = ⟨(txL Y (M + 1) (E + 1) (L / 60) (L % 60)).toArray⟩ := by
      rw [HT.out, hY, hM, hE, em, hL]
      congr 2
    have HT := Lib.hid ht
    have hdat := dat_any D
    rw [hY, hM, hE] at hdat
    have hpar := fun w => parted_any n 1440 w h.1 h.2 (by omega) (by omega)
    rw [hL, hq] at hpar
    clear ht em
    rw [hY] at ho
    rw [hY, hM, hE] at hb
    rw [hL] at l0
    have s4 : ∀ n K, (digs n K).length = K := digs_length
    clear hq hY hM hE hL
    go_enter Try.func19, Try.ntmps19
    go_wp2_with fail
    refine (hpar _).mono ?_
    rintro e w1 ⟨rfl, hd1⟩
    go_wp2_with fail
    refine (hdat _ hd.1 hd.2).mono ?_
    rintro e w2 ⟨rfl, hb2⟩
    have hb3 : Below W.heap.size W w2 := hd1.below.trans (hb2.mono (by rw [hd1.size]; exact Nat.le_refl _))
    clear hb2
    go_wp2_with fail
    refine (digits_int _ _ Y 4 _ rfl rfl (by omega) (by omega)).mono ?_
    rintro e w3 ⟨rfl, hb4⟩
    replace hb3 := hb3.trans (hb4.mono hb3.size)
    clear hb4
    go_wp2_with fail
    refine (digits_int _ _ (M + 1) 2 _ (by omega) rfl (by omega) (by omega)).mono ?_
    rintro e w4 ⟨rfl, hb4⟩
    replace hb3 := hb3.trans (hb4.mono hb3.size)
    clear hb4
    go_wp2_with fail
    refine (digits_int _ _ (E + 1) 2 _ (by omega) rfl (by omega) (by omega)).mono ?_
    rintro e w5 ⟨rfl, hb4⟩
    replace hb3 := hb3.trans (hb4.mono hb3.size)
    clear hb4
    go_wp2_with fail
    refine (digits_int _ _ (L / 60) 2 _ (by omega) rfl (by omega) (by omega)).mono ?_
    rintro e w6 ⟨rfl, hb4⟩
    replace hb3 := hb3.trans (hb4.mono hb3.size)
    clear hb4
    go_wp2_with fail
    refine (digits_int _ _ (L % 60) 2 _ (by omega) rfl (by omega) (by omega)).mono ?_
    rintro e w7 ⟨rfl, hb4⟩
    replace hb3 := hb3.trans (hb4.mono hb3.size)
    clear hb4
    go_wp2_with fail
    go_ret
    refine ⟨?_, hb3⟩
    rw [HT.out]
    refine congrArg (fun s => Ending.returned (.string s)) (toL_inj ?_)
    simp [toL, txL]
set_option maxRecDepth 100000 in
set_option maxHeartbeats 1000000 in
theorem rtext_any (n : Int) (W : World) (h : D0 n) : Calls Try.prog 20 #[.int .i64 n] W fun e w' => e = .returned (.string (text n)) ∧ Below W.heap.size W w' := by
  have hd := h.day
  have hb := date_bd hd.1 hd.2
  have hq : n / 1440 = Cal.day n := rfl
  by_cases ho : out n
  · rw [text_out ho]
    unfold out at ho
    generalize hD : Cal.day n = D at *
    go_enter Try.func20, Try.ntmps20
    go_wp2_with fail
    refine (rday_any _ _ h).mono ?_
    rintro e w1 ⟨rfl, rfl⟩
    rw [hD]
    go_wp2_with fail
    refine (rdat_any _ _ hd.1 hd.2).mono ?_
    rintro e w2 ⟨rfl, rfl⟩
    have hb3 := Below.refl W.heap.size W
    rcases ho with ho | ho
    · go_wp2
      go_ret
      exact ⟨rfl, hb3⟩
    · have ho' : ¬ ye D < 0 := by omega
      go_wp2
      go_ret
      exact ⟨rfl, hb3⟩
  · have HT := Lib.hid (text_in ho)
    unfold out at ho
    have em : n % 60 = n % 1440 % 60 := by omega
    have l0 : 0 ≤ n % 1440 ∧ n % 1440 < 1440 := by omega
    generalize hD : Cal.day n = D at *
    obtain ⟨Y, hY⟩ := Int.eq_ofNat_of_zero_le (by omega : 0 ≤ ye D)
    obtain ⟨M, hM⟩ := Int.eq_ofNat_of_zero_le hb.2.1.1
    obtain ⟨E, hE⟩ := Int.eq_ofNat_of_zero_le hb.2.2.1
    obtain ⟨L, hL⟩ := Int.eq_ofNat_of_zero_le l0.1
    have ht : text n = ⟨(txL Y (M + 1) (E + 1) (L / 60) (L % 60)).toArray⟩ := by
      rw [HT.out, hY, hM, hE, em, hL]
      congr 2
    have HT := Lib.hid ht
    have hdat := rdat_any D
    rw [hY, hM, hE] at hdat
    have hday := fun w => rday_any n w h
    rw [hD] at hday
    have hl : n - 1440 * D = (L : Int) := by omega
    have hin := in_bd (d := D) (by omega) (by omega)
    clear ht em
    rw [hY] at ho
    rw [hY, hM, hE] at hb
    rw [hL] at l0
    have s4 : ∀ n K, (digs n K).length = K := digs_length
    have hl2 : wrap64 (1440 * D) = 1440 * D := IntWalk.wrap64_in _ (by omega)
    clear hq hY hM hE hL
    go_enter Try.func20, Try.ntmps20
    go_wp2_with fail
    refine (hday _).mono ?_
    rintro e w1 ⟨rfl, rfl⟩
    go_wp2_with fail
    refine (hdat _ hd.1 hd.2).mono ?_
    rintro e w2 ⟨rfl, rfl⟩
    have hb3 := Below.refl W.heap.size W
    go_wp2_with fail
    refine (hday _).mono ?_
    rintro e w1 ⟨rfl, rfl⟩
    go_wp2_with fail
    refine (rdigits_int _ _ Y 4 _ rfl rfl (by omega) (by omega)).mono ?_
    rintro e w3 ⟨rfl, hb4⟩
    replace hb3 := hb3.trans (hb4.mono hb3.size)
    clear hb4
    go_wp2_with fail
    refine (rdigits_int _ _ (M + 1) 2 _ (by omega) rfl (by omega) (by omega)).mono ?_
    rintro e w4 ⟨rfl, hb4⟩
    replace hb3 := hb3.trans (hb4.mono hb3.size)
    clear hb4
    go_wp2_with fail
    refine (rdigits_int _ _ (E + 1) 2 _ (by omega) rfl (by omega) (by omega)).mono ?_
    rintro e w5 ⟨rfl, hb4⟩
    replace hb3 := hb3.trans (hb4.mono hb3.size)
    clear hb4
    go_wp2_with fail
    refine (rdigits_int _ _ (L / 60) 2 _ (by omega) rfl (by omega) (by omega)).mono ?_
    rintro e w6 ⟨rfl, hb4⟩
    replace hb3 := hb3.trans (hb4.mono hb3.size)
    clear hb4
    go_wp2_with fail
    refine (rdigits_int _ _ (L % 60) 2 _ (by omega) rfl (by omega) (by omega)).mono ?_
    rintro e w7 ⟨rfl, hb4⟩
    replace hb3 := hb3.trans (hb4.mono hb3.size)
    clear hb4
    go_wp2_with fail
    go_ret
    refine ⟨?_, hb3⟩
    rw [HT.out]
    refine congrArg (fun s => Ending.returned (.string s)) (toL_inj ?_)
    simp [toL, txL]
end Go.Proofs.Ytgjpopndjnbkaaa
