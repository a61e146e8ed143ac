/-
  A later minute's text is the greater one: plain mathematics.
-/
import Derived.Test.YtgjpopndjnbkaaaTx
namespace Go.Proofs.Ytgjpopndjnbkaaa
theorem bl_same (c : UInt8) (x y : List UInt8) : Op.bytesLess (c :: x) (c :: y) = Op.bytesLess x y := by
  rw [Op.bytesLess]
  have h : ¬ c < c := by rw [UInt8.lt_iff_toNat_lt]; omega
  simp
theorem bl_pre : ∀ (p x y : List UInt8), Op.bytesLess (p ++ x) (p ++ y) = Op.bytesLess x y
  | [], _, _ => rfl
  | c :: p, x, y => by rw [List.cons_append, List.cons_append, bl_same, bl_pre p]
theorem bl_app : ∀ (x y r r' : List UInt8), x.length = y.length → Op.bytesLess x y = true → Op.bytesLess (x ++ r) (y ++ r') = true
  | [], [], _, _, _, h => by simp [Op.bytesLess] at h
  | [], _ :: _, _, _, hl, _ => by simp at hl
  | _ :: _, [], _, _, hl, _ => by simp at hl
  | a :: x, b :: y, r, r', hl, h => by
    rw [List.cons_append, List.cons_append]
    rw [Op.bytesLess] at h ⊢
    simp only [Bool.or_eq_true, Bool.and_eq_true] at h ⊢
    rcases h with h | ⟨h1, h2⟩
    · exact .inl h
    · exact .inr ⟨h1, bl_app x y r r' (by simpa using hl) h2⟩
theorem bl_digs (n m : Nat) : ∀ K, n % 10 ^ K < m % 10 ^ K → Op.bytesLess (digs n K) (digs m K) = true
  | 0, h => by simp [Nat.mod_one] at h
  | K + 1, h => by
    rw [Nat.mod_pow_succ, Nat.mod_pow_succ] at h
    have hp : 0 < 10 ^ K := Nat.pow_pos (by omega)
    have hn : n % 10 ^ K < 10 ^ K := Nat.mod_lt _ hp
    have hm : m % 10 ^ K < 10 ^ K := Nat.mod_lt _ hp
    simp only [digs]
    rw [Op.bytesLess]
    have ih := bl_digs n m K
    have da := dg_toNat (n / 10 ^ K)
    have db := dg_toNat (m / 10 ^ K)
    generalize 10 ^ K = P at *
    rcases Nat.lt_trichotomy (n / P % 10) (m / P % 10) with hc | hc | hc
    · have : dg (n / P) < dg (m / P) := by rw [UInt8.lt_iff_toNat_lt]; omega
      simp [this]
    · have e : dg (n / P) = dg (m / P) := by apply UInt8.toNat_inj.1; omega
      rw [hc] at h
      have := ih (by omega)
      simp [e, this]
    · exfalso
      have : P * (m / P % 10 + 1) ≤ P * (n / P % 10) := Nat.mul_le_mul_left P hc
      rw [Nat.mul_add] at this
      omega
theorem bl_field {n m K : Nat} {r r' : List UInt8} (h : n < m) (hm : m < 10 ^ K) : Op.bytesLess (digs n K ++ r) (digs m K ++ r') = true := by
  refine bl_app _ _ _ _ (by rw [digs_length, digs_length]) (bl_digs n m K ?_)
  rw [Nat.mod_eq_of_lt hm, Nat.mod_eq_of_lt (by omega)]
  exact h
theorem txL_eq (y m d h i : Nat) : txL y m d h i = digs y 4 ++ (45 :: (digs m 2 ++ (45 :: (digs d 2 ++ (32 :: (digs h 2 ++ (58 :: digs i 2))))))) := by
  unfold txL
  simp only [List.append_assoc, List.cons_append, List.nil_append]
theorem text_less {a b : Int} (ha : D0 a) (hb : D0 b) (oa : ¬ out a) (ob : ¬ out b) (h : a < b) : Op.bytesLess (toL (text a)) (toL (text b)) = true := by
  rw [toL_text oa, toL_text ob, txL_eq, txL_eq]
  have da := date_bd ha.day.1 ha.day.2
  have db := date_bd hb.day.1 hb.day.2
  have hy := Cal.year_mono (a := a) (b := b) (by omega)
  rw [ye_eq, ye_eq] at hy
  have hm := Cal.month_mono (a := a) (b := b) (by omega)
  rw [mt_eq, mt_eq] at hm
  have na := nb_ye (Cal.day a)
  have nc := nb_ye (Cal.day b)
  have hd : Cal.day a ≤ Cal.day b := by unfold Cal.day; omega
  have ea : a = 1440 * Cal.day a + a % 1440 := by unfold Cal.day; omega
  have eb : b = 1440 * Cal.day b + b % 1440 := by unfold Cal.day; omega
  unfold out at oa ob
  generalize Cal.day a = A at *
  generalize Cal.day b = B at *
  have p2 : (10 : Nat) ^ 2 = 100 := rfl
  have p4 : (10 : Nat) ^ 4 = 10000 := rfl
  by_cases hy2 : ye A < ye B
  · exact bl_field (by omega) (by omega)
  have hy3 : ye A = ye B := by omega
  rw [hy3, bl_pre, bl_same]
  by_cases hm2 : mt A < mt B
  · exact bl_field (by omega) (by omega)
  have hm3 : mt A = mt B := by omega
  rw [hm3, bl_pre, bl_same]
  have hdd : A - dd A = B - dd B := by
    rw [hy3, hm3] at na
    unfold nb at na nc
    omega
  by_cases hd2 : dd A < dd B
  · exact bl_field (by omega) (by omega)
  have hd3 : dd A = dd B := by omega
  rw [hd3, bl_pre, bl_same]
  have hAB : A = B := by omega
  by_cases hh : a % 1440 / 60 < b % 1440 / 60
  · exact bl_field (by omega) (by omega)
  have hh3 : a % 1440 / 60 = b % 1440 / 60 := by omega
  rw [hh3, bl_pre, bl_same]
  have := bl_field (n := (a % 60).toNat) (m := (b % 60).toNat) (K := 2) (r := []) (r' := []) (by omega) (by omega)
  simpa using this
/-- as the walk asks it -/
theorem text_mono {a b : Int} (ha : D0 a) (hb : D0 b) (oa : ¬ out a) (ob : ¬ out b) (h : a ≤ b) : Op.bytesLess (text a).toList (text b).toList = true ∨ text a = text b := by
  by_cases he : a = b
  · exact .inr (by rw [he])
  · rw [ByteArray.toList_eq, ByteArray.toList_eq]
    exact .inl (text_less ha hb oa ob (by omega))
end Go.Proofs.Ytgjpopndjnbkaaa
