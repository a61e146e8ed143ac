/-
  A text that there is, is read as the minute whose text it is: plain mathematics.
-/
import Derived.Test.YtgjpopndjnbkaaaOf
namespace Go.Proofs.Ytgjpopndjnbkaaa
open Go.RowKit Go.Shelf
theorem dg_toNat (x : Nat) : (dg x).toNat = 48 + x % 10 := by
  unfold dg
  rw [UInt8.toNat_ofNat']
  omega
theorem vl_digs (n : Nat) : ∀ (K : Nat) (a : Int), vl (digs n K) a = 10 ^ K * a + ((n % 10 ^ K : Nat) : Int)
  | 0, a => by simp [digs, vl, Nat.mod_one]
  | K + 1, a => by
    have h := Nat.mod_pow_succ (x := n) (b := 10) (k := K)
    have e1 : (10 : Int) ^ (K + 1) * a = 10 ^ K * (10 * a) := by rw [Int.pow_succ, Int.mul_assoc]
    have e2 : ((10 ^ K * (n / 10 ^ K % 10) : Nat) : Int) = 10 ^ K * ((n / 10 ^ K % 10 : Nat) : Int) := by rw [Int.natCast_mul, Int.natCast_pow]; rfl
    have e3 : 10 * a + ((48 + n / 10 ^ K % 10 : Nat) : Int) - 48 = 10 * a + ((n / 10 ^ K % 10 : Nat) : Int) := by omega
    simp only [digs, vl]
    rw [vl_digs n K, dg_toNat, e3, Int.mul_add, h, Int.natCast_add, e2, e1]
    omega
theorem nb_ye (d : Int) : nb (ye d) (mt d) (dd d) = d := by
  have S := Cal.mo_spec (r := d % 146097) (by omega) (by omega)
  unfold nb ye mt dd
  generalize Cal.mo (d % 146097) = k at *
  have h1 : (2000 + 400 * (d / 146097) + ((k / 12 : Nat) : Int) - 2000) / 400 = d / 146097 := by omega
  have h2 : ((2000 + 400 * (d / 146097) + ((k / 12 : Nat) : Int) - 2000) % 400).toNat = k / 12 := by omega
  rw [h1, h2, Int.toNat_natCast, show 12 * (k / 12) + k % 12 = k from by omega]
  omega
theorem toL_mk (l : List UInt8) : toL ⟨l.toArray⟩ = l := by simp [toL]
theorem toL_text {n : Int} (h : ¬ out n) : toL (text n) = txL (ye (Cal.day n)).toNat (mt (Cal.day n) + 1).toNat (dd (Cal.day n) + 1).toNat (n % 1440 / 60).toNat (n % 60).toNat := by
  rw [text_in h, toL_mk]
theorem txL_good (y m d h i : Nat) : ∀ c ∈ txL y m d h i, c.toNat < 128 ∧ other c.toNat = false := by
  have hg : ∀ x, (dg x).toNat < 128 ∧ other (dg x).toNat = false := fun x => by
    rw [dg_toNat]
    refine ⟨by omega, ?_⟩
    unfold other
    have : decide (48 ≤ 48 + x % 10) = true := by simp
    have : decide (48 + x % 10 ≤ 57) = true := by simp; omega
    simp [*]
  intro c hc
  simp only [txL, digs, List.mem_append, List.mem_cons, List.not_mem_nil, or_false] at hc
  rcases hc with hc
  repeat' (rcases hc with hc | hc)
  all_goals first | exact hg _ | decide
theorem text_size {n : Int} (h : ¬ out n) : (text n).size = 16 := by rw [← toL_length, toL_text h]; simp [txL, digs_length]
theorem text_good {n : Int} (h : ¬ out n) : good (text n) := fun k hk => by
  have hm : (text n)[k] ∈ toL (text n) := by
    unfold toL
    exact List.getElem_mem (l := (text n).data.toList) (by simpa using hk)
  rw [toL_text h] at hm
  exact txL_good _ _ _ _ _ _ hm
theorem text_month {n : Int} (hD : D0 n) (h : ¬ out n) : monthOf (toL (text n)) = mt (Cal.day n) := by
  have hb := date_bd hD.day.1 hD.day.2
  rw [toL_text h]
  show vl (digs (mt (Cal.day n) + 1).toNat 2) 0 - 1 = _
  rw [vl_digs]
  have : (10 : Nat) ^ 2 = 100 := rfl
  omega
theorem text_rdm {n : Int} (hD : D0 n) (h : ¬ out n) : rdm (toL (text n)) = n := by
  have hb := date_bd hD.day.1 hD.day.2
  have hm := text_month hD h
  unfold rdm
  rw [hm, toL_text h]
  have hy : ¬ (ye (Cal.day n) < 0 ∨ 9999 < ye (Cal.day n)) := h
  have p2 : (10 : Nat) ^ 2 = 100 := rfl
  have p4 : (10 : Nat) ^ 4 = 10000 := rfl
  have e1 : vl (digs (ye (Cal.day n)).toNat 4) 0 = ye (Cal.day n) := by rw [vl_digs]; omega
  have e2 : vl (digs (dd (Cal.day n) + 1).toNat 2) 0 - 1 = dd (Cal.day n) := by rw [vl_digs]; omega
  have e3 : vl (digs (n % 1440 / 60).toNat 2) 0 = n % 1440 / 60 := by rw [vl_digs]; omega
  have e4 : vl (digs (n % 60).toNat 2) 0 = n % 60 := by rw [vl_digs]; omega
  show nb (vl (digs (ye (Cal.day n)).toNat 4) 0) (mt (Cal.day n)) (vl (digs (dd (Cal.day n) + 1).toNat 2) 0 - 1) * 1440 + vl (digs (n % 1440 / 60).toNat 2) 0 * 60 + vl (digs (n % 60).toNat 2) 0 = n
  rw [e1, e2, e3, e4, nb_ye]
  unfold Cal.day
  omega
/-- what there is, is read -/
theorem OfIs.in {n : Int} {e : Ending} (hD : D0 n) (h : ¬ out n) (ho : OfIs (text n) e) : e = .returned (.tuple #[.int .i64 n, .bool true]) := by
  rcases ho with ⟨ho, _⟩ | ⟨_, hn⟩
  · rw [ho, text_rdm hD h]
  · have hb := date_bd hD.day.1 hD.day.2
    exact absurd ⟨text_size h, text_good h, by rw [text_month hD h]; omega, by rw [text_month hD h]; omega, by rw [text_rdm hD h]⟩ hn
theorem text_inj {a b : Int} (ha : D0 a) (hb : D0 b) (h1 : ¬ out a) (h2 : ¬ out b) (h : text a = text b) : a = b := by
  rw [← text_rdm ha h1, ← text_rdm hb h2, h]
theorem OfIs.none {s : ByteArray} {e : Ending} (h : s.size ≠ 16) (ho : OfIs s e) : e = .returned (.tuple #[.int .i64 0, .bool false]) := by
  rcases ho with ⟨_, ht, h16, _⟩ | ⟨he, _⟩
  · exact absurd h16 h
  · exact he
end Go.Proofs.Ytgjpopndjnbkaaa
