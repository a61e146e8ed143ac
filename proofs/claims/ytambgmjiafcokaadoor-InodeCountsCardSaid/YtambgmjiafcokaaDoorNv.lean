/-
  Plain mathematics, no program: numbers as bytes, the lowest byte first, and back.
-/
import Derived.Test.YtambgmjiafcokaaDoorNu
namespace Nu
set_option linter.unusedVariables false
set_option maxRecDepth 100000
set_option linter.unusedSimpArgs false
def putB : Nat → Nat → List UInt8
  | _, 0 => []
  | n, k + 1 => UInt8.ofNat (n % 256) :: putB (n / 256) k
def getB : List UInt8 → Nat
  | [] => 0
  | c :: t => c.toNat + 256 * getB t
theorem putB_length : ∀ (n k : Nat), (putB n k).length = k
  | _, 0 => rfl
  | n, k + 1 => by simp [putB, putB_length (n / 256) k]
theorem getB_lt : ∀ l : List UInt8, getB l < 256 ^ l.length
  | [] => by simp [getB]
  | c :: t => by
    have ih := getB_lt t
    have hc : c.toNat < 256 := c.toNat_lt
    rw [getB, List.length_cons, Nat.pow_succ]
    omega
theorem getB_drop {l : List UInt8} {k : Nat} (h : k < l.length) : getB (l.drop k) = l[k].toNat + 256 * getB (l.drop (k + 1)) := by
  rw [List.drop_eq_getElem_cons h]; rfl
theorem get_put : ∀ (k n : Nat), getB (putB n k) = n % 256 ^ k
  | 0, n => by simp [getB, putB, Nat.mod_one]
  | k + 1, n => by
    rw [putB, getB, get_put k, Nat.pow_succ, Nat.mul_comm (256 ^ k) 256, Nat.mod_mul, toNat_ofNat (Nat.mod_lt _ (by omega))]
theorem put_get : ∀ l : List UInt8, putB (getB l) l.length = l
  | [] => rfl
  | c :: t => by
    have hc : c.toNat < 256 := c.toNat_lt
    have e1 : (c.toNat + 256 * getB t) % 256 = c.toNat := by omega
    have e2 : (c.toNat + 256 * getB t) / 256 = getB t := by omega
    rw [getB, List.length_cons, putB, e1, e2, put_get t, UInt8.ofNat_toNat]
theorem putB_get : ∀ (k n j : Nat) (h : j < (putB n k).length), (putB n k)[j] = UInt8.ofNat (n / 256 ^ j % 256)
  | 0, _, j, h => by simp [putB] at h
  | k + 1, n, 0, h => by simp [putB]
  | k + 1, n, j + 1, h => by
    have h' : j < (putB (n / 256) k).length := by simpa [putB] using h
    have e := putB_get k (n / 256) j h'
    simp only [putB, List.getElem_cons_succ, e]
    congr 2
    rw [Nat.pow_succ, Nat.mul_comm (256 ^ j) 256, ← Nat.div_div_eq_div_mul]
theorem putB_snoc (n k : Nat) : putB n (k + 1) = putB n k ++ [UInt8.ofNat (n / 256 ^ k % 256)] := by
  apply List.ext_getElem
  · simp [putB_length]
  · intro i h1 h2
    rw [putB_get]
    by_cases h : i < k
    · rw [List.getElem_append_left (by rw [putB_length]; exact h), putB_get]
    · have : i = k := by rw [putB_length] at h1; omega
      subst this
      rw [List.getElem_append_right (by rw [putB_length]; omega)]
      simp [putB_length]
end Nu
