/-
  THE WALK of what hands on the parts: the text, filled up with zeros, in three rows.
-/
import Derived.Test.YtgfnpemonpebpaaRo
import Derived.Test.YtgfnpemonpebpaaSh
namespace Go.Proofs.Ytgfnpemonpebpaa
open Go.RowKit
set_option linter.unusedVariables false
set_option linter.unusedSimpArgs false
theorem toN_append (a b : ByteArray) : toN (a ++ b) = toN a ++ toN b := by
  unfold toN
  simp
theorem toN_extract (s : ByteArray) (a b : Nat) : toN (s.extract a b) = ((toN s).take b).drop a := by
  unfold toN
  rw [ByteArray.data_extract]
  simp only [Array.toList_extract, List.extract_eq_take_drop, List.map_take, List.map_drop, List.take_drop]
  by_cases h : a ≤ b
  · rw [show a + (b - a) = b from by omega]
  · rw [List.drop_eq_nil_of_le (by rw [List.length_take]; omega), List.drop_eq_nil_of_le (by rw [List.length_take]; omega)]
theorem bs_toN (s : ByteArray) : bs (toN s) = s := by
  unfold bs toN
  rw [List.map_map]
  have : (UInt8.ofNat ∘ fun (x : UInt8) => x.toNat) = id := by funext x; simp
  rw [this, List.map_id]
theorem ext_nth {l m : List Nat} (h : l.length = m.length) (hn : ∀ i, i < l.length → Gf.nth l i = Gf.nth m i) : l = m := by
  apply List.ext_getElem?
  intro i
  by_cases hi : i < l.length
  · have := hn i hi
    rw [Gf.nth_eq, Gf.nth_eq, List.getElem?_eq_getElem hi, List.getElem?_eq_getElem (by omega)] at this
    rw [List.getElem?_eq_getElem hi, List.getElem?_eq_getElem (by omega)]
    exact congrArg some this
  · rw [List.getElem?_eq_none (by omega), List.getElem?_eq_none (by omega)]
theorem nth_left {l m : List Nat} {i : Nat} (h : i < l.length) : Gf.nth (l ++ m) i = Gf.nth l i := by
  rw [Gf.nth_eq, Gf.nth_eq, List.getElem?_append_left h]
theorem nth_zs (L : List Nat) (c i : Nat) : Gf.nth (L ++ zs c) i = Gf.nth L i := by
  by_cases h : i < L.length
  · exact nth_left h
  · rw [Gf.nth_eq, Gf.nth_eq, List.getElem?_append_right (by omega), List.getElem?_eq_none (l := L) (by omega)]
    unfold zs
    rw [List.getElem?_replicate]
    split <;> rfl
theorem row_cut (D : ByteArray) (n c k i j : Nat) (hn : n = Pa.cnt D.size) (hc : D.size + c = 3 * n) (hk : k < 3) (hi : i = k * n) (hj : j = k * n + n) : toN ((D ++ bs (zs c)).extract i j) = Pa.cut (toN D) k := by
  have hl : (toN D).length = D.size := toN_length D
  have hz : toN (bs (zs c)) = zs c := toN_bs (fun x hx => by have := List.eq_of_mem_replicate hx; omega)
  have hkn : k * n + n ≤ 3 * n := by
    match k, hk with
    | 0, _ => omega
    | 1, _ => omega
    | 2, _ => omega
  rw [toN_extract, toN_append, hz]
  have hlen : (toN D ++ zs c).length = 3 * n := by rw [List.length_append, hl, zs_length, hc]
  apply ext_nth
  · rw [Pa.cut_length, hl, List.length_drop, List.length_take, hlen, ← hn]; omega
  · intro m hm
    rw [List.length_drop, List.length_take, hlen] at hm
    rw [Pa.cut_nth _ _ (by rw [hl, ← hn]; omega), hl, ← hn]
    rw [Gf.nth_eq, List.getElem?_drop, List.getElem?_take_of_lt (by omega), ← Gf.nth_eq, nth_zs, hi]
theorem rep_bs (c : Nat) (hc : c ≤ 2) : (⟨(Lib.repeatL (⟨#[0]⟩ : ByteArray).data.toList c).toArray⟩ : ByteArray) = bs (zs c) := by
  match c, hc with
  | 0, _ => rfl
  | 1, _ => rfl
  | 2, _ => rfl
theorem rep_any (c : Nat) (hc : c ≤ 2) (w : World) : Calls Try.prog 27 #[.string ⟨#[0]⟩, .int .i64 c] w fun e w' => e = .returned (.string (bs (zs c))) ∧ Below w.heap.size w w' := by
  have h := Try.strings_Repeat ⟨#[0]⟩ c w (by omega) (by show 1 * c ≤ _; omega)
  rw [rep_bs c hc] at h
  exact h
/-- where the rows of what hands on the parts lie -/
def Rows3 (w : World) (b : Nat) (L : List Nat) : Prop := ∃ R S T : ByteArray, Own w b 49 #[.string R, .string S, .string T] ∧ toN R = Pa.cut L 0 ∧ toN S = Pa.cut L 1 ∧ toN T = Pa.cut L 2
theorem Rows3.below {w w' : World} {b B : Nat} {L : List Nat} (h : Rows3 w b L) (hb : Below B w w') (hB : b < B) : Rows3 w' b L := by
  obtain ⟨R, S, T, o, h1, h2, h3⟩ := h
  exact ⟨R, S, T, o.belowB hb hB, h1, h2, h3⟩
theorem Rows3.lt {w : World} {b : Nat} {L : List Nat} (h : Rows3 w b L) : b < w.heap.size := by
  obtain ⟨R, S, T, o, _⟩ := h
  exact o.lt
set_option maxRecDepth 100000 in
set_option maxHeartbeats 2000000 in
theorem parts_any (D : ByteArray) (hD : D.size ≤ 1000000) (w : World) :
    Calls Try.prog 18 #[.string D] w fun e w' => ∃ b, e = .returned (.func (.func 28) #[] #[.pointer (some ⟨b, 0, none⟩)]) ∧ w.heap.size ≤ b ∧ Rows3 w' b (toN D) ∧ Below w.heap.size w w' := by
  obtain ⟨n, hn⟩ : ∃ n, n = Pa.cnt D.size := ⟨_, rfl⟩
  have hcn : D.size ≤ 3 * n := by rw [hn]; unfold Pa.cnt; omega
  have hcn2 : 3 * n ≤ D.size + 2 := by rw [hn]; unfold Pa.cnt; omega
  obtain ⟨c, hc⟩ : ∃ c, D.size + c = 3 * n := ⟨3 * n - D.size, by omega⟩
  have hr := fun w => crows_any (D.size : Int) (by omega) (by omega) w
  simp only [rowsI_nat] at hr
  rw [← hn] at hr
  have e1 : IntKind.i64.wrap (3 * (n : Int)) = 3 * (n : Int) := IntWalk.i64_in _ (by omega)
  have e2 : IntKind.i64.wrap (3 * (n : Int) - (D.size : Int)) = (c : Int) := by rw [IntWalk.i64_in _ (by omega)]; omega
  have e3 : IntKind.i64.wrap (2 * (n : Int)) = 2 * (n : Int) := IntWalk.i64_in _ (by omega)
  have hp := fun w => rep_any c (by omega) w
  have k0 := row_cut D n c 0 0 n hn hc (by omega) (by omega) (by omega)
  have k1 := row_cut D n c 1 n (2 * n) hn hc (by omega) (by omega) (by omega)
  have k2 := row_cut D n c 2 (2 * n) (3 * n) hn hc (by omega) (by omega) (by omega)
  have hs : (D ++ bs (zs c)).size = 3 * n := by rw [ByteArray.size_append, bs_size, zs_length, hc]
  have hsz : D.size + (bs (zs c)).size ≤ 9223372036854775807 := by rw [bs_size, zs_length]; omega
  have HK := Lib.hid (And.intro k0 (And.intro k1 k2))
  clear k0 k1 k2 hn hc
  go_enter Try.func18, Try.ntmps18
  go_wp2_with (first | (go_at_call 13; refine (hr _).mono ?_; rintro e w1 ⟨rfl, rfl⟩) | (go_at_call 27; refine (hp _).mono ?_; rintro e w2 ⟨rfl, hb2⟩))
  generalize D ++ bs (zs c) = P at *
  have s1 : (n : Int) ≤ (P.size : Int) := by omega
  have s2 : 2 * (n : Int) ≤ (P.size : Int) := by omega
  have s3 : (n : Int) ≤ 2 * (n : Int) := by omega
  have s4 : (2 * (n : Int)).toNat = 2 * n := by omega
  have s5 : 0 ≤ 2 * (n : Int) := by omega
  have s6 : P.size = 3 * n := hs
  clear e1 e2 hcn hcn2 hr hp hsz
  go_region
  go_wp2_with fail
  go_ret
  exact ⟨w2.heap.size, rfl, hb2.size, ⟨_, _, _, (Own.new _ _ _).drew, HK.out.1, HK.out.2.1, HK.out.2.2⟩, (hb2.alloc hb2.size _).drew⟩
end Go.Proofs.Ytgfnpemonpebpaa
