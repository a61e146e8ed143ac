/-
  THE WALK of the reading of a length.
-/
import Derived.Test.YtkbelpkmlmfedaaProg
import Derived.Test.YtkbelpkmlmfedaaNu
import Derived.WalkKit
import Derived.WalkSpells
import Derived.Lib.Hide
import Derived.Below
import Derived.WalkLawsBesides
namespace Go.Proofs.Ytkbelpkmlmfedaa
set_option linter.unusedVariables false
set_option maxRecDepth 100000
set_option linter.unusedSimpArgs false
open Go.RowKit
theorem i64_or_nat (a b : Nat) (ha : a < 4611686018427387904) (hb : b < 4611686018427387904) : bits .or .i64 (a : Int) (b : Int) = ((a ||| b : Nat) : Int) := by
  have hx : a ||| b < 2 ^ 62 := Nat.or_lt_two_pow (by omega) (by omega)
  have h1 : (BitVec.ofInt 64 (a : Int)).toNat = a := by
    rw [BitVec.ofInt_natCast, BitVec.toNat_ofNat]; exact Nat.mod_eq_of_lt (by omega)
  have h2 : (BitVec.ofInt 64 (b : Int)).toNat = b := by
    rw [BitVec.ofInt_natCast, BitVec.toNat_ofNat]; exact Nat.mod_eq_of_lt (by omega)
  show IntKind.i64.wrap ((BitVec.ofInt 64 (a : Int) ||| BitVec.ofInt 64 (b : Int)).toNat : Int) = _
  rw [BitVec.toNat_or, h1, h2]
  exact IntWalk.i64_in _ (by omega)
theorem or_add (N c k : Nat) (hN : N < 128 ^ k) (hk : k < 4) : bits .or .i64 (N : Int) (wrap64 ((c : Int) % 128 * 2 ^ (7 * k))) = ((N + c % 128 * 128 ^ k : Nat) : Int) := by
  have e1 : (c : Int) % 128 * 2 ^ (7 * k) = ((c % 128 * 128 ^ k : Nat) : Int) := by
    have e0 : (128 : Nat) ^ k = 2 ^ (7 * k) := by rw [Nat.pow_mul]
    rw [e0, Int.natCast_mul, Int.natCast_emod, Int.natCast_pow]
    rfl
  have hs : 128 ^ k ≤ 128 ^ 3 := Nat.pow_le_pow_right (by omega) (by omega)
  have hc : c % 128 * 128 ^ k < 128 * 128 ^ 3 := Nat.lt_of_lt_of_le (Nat.mul_lt_mul_of_pos_right (Nat.mod_lt _ (by omega)) (Nat.pow_pos (by omega))) (Nat.mul_le_mul_left _ hs)
  rw [e1, IntWalk.wrap64_in _ ⟨by omega, by omega⟩, i64_or_nat _ _ (by omega) (by omega)]
  congr 1
  have e2 : 128 ^ k = 2 ^ (7 * k) := by rw [Nat.pow_mul]
  rw [e2] at hN ⊢
  rw [Nat.or_comm, Nat.mul_comm, ← Nat.two_pow_add_eq_or_of_lt hN, Nat.add_comm]
def GlIs (L : List UInt8) (e : Ending) : Prop := e = .returned (.tuple #[.int .i64 ((Nu.glen L).1 : Nat), .int .i64 ((Nu.glen L).2.1 : Nat), .int .i64 ((Nu.glen L).2.2 : Nat)])
theorem GlIs.of {L : List UInt8} {a b c : Nat} (h : Nu.glen L = (a, b, c)) : GlIs L (.returned (.tuple #[.int .i64 (a : Nat), .int .i64 (b : Nat), .int .i64 (c : Nat)])) := by unfold GlIs; rw [h]
theorem drop_bytes (s : ByteArray) (k : Nat) (h : k < s.size) : s.data.toList.drop k = s[k] :: s.data.toList.drop (k + 1) := by
  rw [List.drop_eq_getElem_cons (by simpa using h)]; rfl
end Go.Proofs.Ytkbelpkmlmfedaa
