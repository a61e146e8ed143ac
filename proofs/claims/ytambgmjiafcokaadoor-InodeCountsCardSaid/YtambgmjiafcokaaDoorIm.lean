/-
  Plain mathematics, no program: an inode's twelve numbers as 24 bytes, and back; 24 bytes of a block are others.
-/
import Derived.Test.YtambgmjiafcokaaDoorNv
namespace Ni
set_option linter.unusedVariables false
set_option maxRecDepth 100000
set_option linter.unusedSimpArgs false
/-- how many bytes a number takes; where they begin; which cell it is -/
def sz (q : Nat) : Nat := if q < 2 then 1 else if q = 3 then 4 else 2
def of (q : Nat) : Nat := if q < 3 then q else if q = 3 then 4 else 2 * q
def cl (q : Nat) : Nat := if q = 1 then 2 else if q = 2 then 1 else q
theorem of_next : ∀ q, q < 12 → of (q + 1) = of q + sz q := by decide
theorem of_le : ∀ q, q < 12 → of q + sz q ≤ 24 := by decide
theorem sz_le : ∀ q, q < 12 → 1 ≤ sz q ∧ sz q ≤ 4 := by decide
theorem cl_lt : ∀ q, q < 12 → cl q < 12 := by decide
theorem cl_inj : ∀ q, q < 12 → ∀ p, p < 12 → cl q = cl p → q = p := by decide
theorem cl_cl : ∀ q, q < 12 → cl (cl q) = q := by decide
def enc (X : Nat → Int) : Nat → List UInt8
  | 0 => []
  | k + 1 => enc X k ++ Nu.putB (X k).toNat (sz k)
theorem enc_length (X : Nat → Int) : ∀ k, k ≤ 12 → (enc X k).length = of k
  | 0, _ => rfl
  | k + 1, h => by rw [enc, List.length_append, enc_length X k (by omega), Nu.putB_length, of_next k (by omega)]
theorem enc_split (X : Nat → Int) (q : Nat) : ∀ k, q < k → ∃ t, enc X k = enc X q ++ (Nu.putB (X q).toNat (sz q) ++ t)
  | 0, h => by omega
  | k + 1, h => by
    by_cases e : q = k
    · subst e
      exact ⟨[], by rw [enc, List.append_nil]⟩
    · obtain ⟨t, ht⟩ := enc_split X q k (by omega)
      exact ⟨t ++ Nu.putB (X k).toNat (sz k), by rw [enc, ht]; simp [List.append_assoc]⟩
theorem enc_congr {X Y : Nat → Int} : ∀ k, (∀ q, q < k → X q = Y q) → enc X k = enc Y k
  | 0, _ => rfl
  | k + 1, h => by rw [enc, enc, enc_congr k (fun q hq => h q (by omega)), h k (by omega)]
def fld (s : List UInt8) (q : Nat) : List UInt8 := (s.drop (of q)).take (sz q)
def dec (s : List UInt8) (q : Nat) : Int := (Nu.getB (fld s q) : Nat)
def Fit (X : Nat → Int) : Prop := ∀ q, q < 12 → 0 ≤ X q ∧ X q < ((256 ^ sz q : Nat) : Int)
theorem fld_lt (s : List UInt8) (q : Nat) : Nu.getB (fld s q) < 256 ^ sz q := by
  refine Nat.lt_of_lt_of_le (Nu.getB_lt _) (Nat.pow_le_pow_right (by decide) ?_)
  unfold fld
  exact List.length_take_le _ _
theorem dec_fit (s : List UInt8) : Fit (dec s) := fun q _ => by
  have := fld_lt s q
  unfold dec
  omega
theorem dec_enc {X : Nat → Int} (hf : Fit X) (t : List UInt8) {q : Nat} (hq : q < 12) : dec (enc X 12 ++ t) q = X q := by
  obtain ⟨r, hr⟩ := enc_split X q 12 hq
  obtain ⟨h0, h1⟩ := hf q hq
  have e : fld (enc X 12 ++ t) q = Nu.putB (X q).toNat (sz q) := by
    unfold fld
    rw [hr, List.append_assoc, List.append_assoc, List.drop_left' (enc_length X q (by omega)), List.take_left' (Nu.putB_length _ _)]
  unfold dec
  rw [e, Nu.get_put, Nat.mod_eq_of_lt (by omega)]
  omega
theorem enc_dec_k (s : List UInt8) (h : 24 ≤ s.length) : ∀ k, k ≤ 12 → enc (dec s) k = s.take (of k)
  | 0, _ => rfl
  | k + 1, hk => by
    have hl := of_le k (by omega)
    have e : (fld s k).length = sz k := by
      unfold fld
      rw [List.length_take, List.length_drop]
      omega
    have e2 : Nu.putB (dec s k).toNat (sz k) = fld s k := by
      unfold dec
      rw [Int.toNat_natCast, ← e, Nu.put_get]
    rw [enc, enc_dec_k s h k (by omega), e2, of_next k (by omega)]
    unfold fld
    rw [List.take_add]
theorem enc_dec {s : List UInt8} (h : 24 ≤ s.length) : enc (dec s) 12 = s.take 24 := enc_dec_k s h 12 (by omega)
theorem fld_take (s : List UInt8) {q : Nat} (hq : q < 12) : fld (s.take 24) q = fld s q := by
  have hl := of_le q hq
  unfold fld
  rw [List.drop_take, List.take_take, Nat.min_eq_left (by omega)]
theorem dec_take (s : List UInt8) {q : Nat} (hq : q < 12) : dec (s.take 24) q = dec s q := by unfold dec; rw [fld_take s hq]
/-- 24 bytes of a text, from a on, are others -/
def ins (s : List UInt8) (a : Nat) (e : List UInt8) : List UInt8 := s.take a ++ (e ++ s.drop (a + 24))
theorem ins_get {s e : List UInt8} {a : Nat} (ha : a + 24 ≤ s.length) (he : e.length = 24) (i : Nat) : (ins s a e)[i]? = if a ≤ i ∧ i < a + 24 then e[i - a]? else s[i]? := by
  unfold ins
  have hl : (s.take a).length = a := by rw [List.length_take]; omega
  by_cases h1 : i < a
  · rw [List.getElem?_append_left (by omega), if_neg (by omega), List.getElem?_take, if_pos h1]
  · rw [List.getElem?_append_right (by omega), hl]
    by_cases h2 : i < a + 24
    · rw [List.getElem?_append_left (by omega), if_pos ⟨by omega, h2⟩]
    · rw [List.getElem?_append_right (by omega), he, if_neg (by omega), List.getElem?_drop, show a + 24 + (i - a - 24) = i by omega]
theorem ins_length {s e : List UInt8} {a : Nat} (ha : a + 24 ≤ s.length) (he : e.length = 24) : (ins s a e).length = s.length := by
  unfold ins
  rw [List.length_append, List.length_append, List.length_take, List.length_drop]
  omega
theorem ins_drop {s e : List UInt8} {a : Nat} (ha : a + 24 ≤ s.length) : (ins s a e).drop a = e ++ s.drop (a + 24) := by
  unfold ins
  exact List.drop_left' (by rw [List.length_take]; omega)
theorem ins_swap {s e f : List UInt8} {a b : Nat} (ha : a + 24 ≤ s.length) (hb : b + 24 ≤ s.length) (he : e.length = 24) (hf : f.length = 24) (h : a + 24 ≤ b ∨ b + 24 ≤ a) :
    ins (ins s a e) b f = ins (ins s b f) a e := by
  apply List.ext_getElem?
  intro i
  have la := ins_length ha he
  have lb := ins_length hb hf
  rw [ins_get (by omega) hf, ins_get ha he, ins_get (by omega) he, ins_get hb hf]
  by_cases h1 : b ≤ i ∧ i < b + 24
  · rw [if_pos h1, if_neg (by omega), if_pos h1]
  · rw [if_neg h1, if_neg h1]
theorem ins_other {s e : List UInt8} {a b : Nat} (ha : a + 24 ≤ s.length) (he : e.length = 24) (h : a + 24 ≤ b ∨ b + 24 ≤ a) : ((ins s a e).drop b).take 24 = (s.drop b).take 24 := by
  apply List.ext_getElem?
  intro i
  rw [List.getElem?_take, List.getElem?_take]
  by_cases hi : i < 24
  · rw [if_pos hi, if_pos hi, List.getElem?_drop, List.getElem?_drop, ins_get ha he, if_neg (by omega)]
  · rw [if_neg hi, if_neg hi]
theorem ins_same {s : List UInt8} {a : Nat} (ha : a + 24 ≤ s.length) : ins s a ((s.drop a).take 24) = s := by
  unfold ins
  rw [← List.drop_drop, List.take_append_drop, List.take_append_drop]
end Ni
