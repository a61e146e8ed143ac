/-
  THE WALK of the reading of a length.
-/
import Derived.Test.YtaoaebdjinlcnaaDoorProg
import Derived.Test.YtaoaebdjinlcnaaDoorUNu
import Derived.WalkKit
import Derived.WalkSpells
import Derived.Lib.Hide
import Derived.Below
import Derived.WalkLawsBesides
set_option linter.unusedVariables false
set_option linter.unusedSimpArgs false
set_option maxRecDepth 100000
namespace Go.Proofs.YtaoaebdjinlcnaaDoor.Un
open Go.RowKit
theorem i64_or_nat (a b : Nat) (ha : a < 4611686018427387904) (hb : b < 4611686018427387904) : bits .or .i64 (a : Int) (b : Int) = ((a ||| b : Nat) : Int) := by
  have hx : a ||| b < 2 ^ 62 := Nat.or_lt_two_pow (by omega) (by omega)
  have h1 : (BitVec.ofInt 64 (a : Int)).toNat = a := by
    rw [BitVec.ofInt_natCast, BitVec.toNat_ofNat]; exact Nat.mod_eq_of_lt (by omega)
  have h2 : (BitVec.ofInt 64 (b : Int)).toNat = b := by
    rw [BitVec.ofInt_natCast, BitVec.toNat_ofNat]; exact Nat.mod_eq_of_lt (by omega)
  show IntKind.i64.wrap ((BitVec.ofInt 64 (a : Int) ||| BitVec.ofInt 64 (b : Int)).toNat : Int) = _
  rw [BitVec.toNat_or, h1, h2]
  exact IntWalk.i64_in _ (by omega)
theorem or_add (N c k : Nat) (hN : N < 128 ^ k) (hk : k < 4) : bits .or .i64 (N : Int) (wrap64 ((c : Int) % 128 * 2 ^ (7 * k))) = ((N + c % 128 * 128 ^ k : Nat) : Int) := by
  have e1 : (c : Int) % 128 * 2 ^ (7 * k) = ((c % 128 * 128 ^ k : Nat) : Int) := by
    have e0 : (128 : Nat) ^ k = 2 ^ (7 * k) := by rw [Nat.pow_mul]
    rw [e0, Int.natCast_mul, Int.natCast_emod, Int.natCast_pow]
    rfl
  have hs : 128 ^ k ≤ 128 ^ 3 := Nat.pow_le_pow_right (by omega) (by omega)
  have hc : c % 128 * 128 ^ k < 128 * 128 ^ 3 := Nat.lt_of_lt_of_le (Nat.mul_lt_mul_of_pos_right (Nat.mod_lt _ (by omega)) (Nat.pow_pos (by omega))) (Nat.mul_le_mul_left _ hs)
  rw [e1, IntWalk.wrap64_in _ ⟨by omega, by omega⟩, i64_or_nat _ _ (by omega) (by omega)]
  congr 1
  have e2 : 128 ^ k = 2 ^ (7 * k) := by rw [Nat.pow_mul]
  rw [e2] at hN ⊢
  rw [Nat.or_comm, Nat.mul_comm, ← Nat.two_pow_add_eq_or_of_lt hN, Nat.add_comm]
def GlIs (L : List UInt8) (e : Ending) : Prop := e = .returned (.tuple #[.int .i64 ((Nu.glen L).1 : Nat), .int .i64 ((Nu.glen L).2.1 : Nat), .int .i64 ((Nu.glen L).2.2 : Nat)])
theorem GlIs.of {L : List UInt8} {a b c : Nat} (h : Nu.glen L = (a, b, c)) : GlIs L (.returned (.tuple #[.int .i64 (a : Nat), .int .i64 (b : Nat), .int .i64 (c : Nat)])) := by unfold GlIs; rw [h]
theorem drop_bytes (s : ByteArray) (k : Nat) (h : k < s.size) : s.data.toList.drop k = s[k] :: s.data.toList.drop (k + 1) := by
  rw [List.drop_eq_getElem_cons (by simpa using h)]; rfl
set_option maxRecDepth 100000 in
set_option maxHeartbeats 400000 in
theorem glen_any (s : ByteArray) (w : World) (hs : s.size ≤ 9223372036854775807) :
    Calls Tryd.prog 60 #[.string s] w fun e w' => GlIs s.data.toList e ∧ w = w' := by
  go_enter Tryd.func60, Tryd.ntmps60
  go_wp2
  go_loop [5, 8] (fun n i => ∃ k N : Nat, k ≤ 4 ∧ k ≤ s.size ∧ i = .int .i64 k ∧ n = .int .i64 N ∧ N < 128 ^ k ∧ Nu.glen s.data.toList = Nu.gl (4 - k) k N (s.data.toList.drop k)) (fun _ i => 4 - (intOf i).toNat)
  case atStart => exact ⟨0, 0, Nat.zero_le _, Nat.zero_le _, rfl, rfl, by simp, rfl⟩
  case round =>
    obtain ⟨k, N, hk, hks, rfl, rfl, hN, hg⟩ := hrel
    have HN := Lib.hid hN
    by_cases hlt : k < 4
    · obtain ⟨f, hf⟩ : ∃ f, 4 - k = f + 1 := ⟨3 - k, by omega⟩
      have ef : 4 - (k + 1) = f := by omega
      rw [hf] at hg
      by_cases hl : k < s.size
      · have t0 : ((k : Int) == (s.size : Int)) = false := by rw [beq_eq_false_iff_ne]; omega
        have b8 : s[k].toNat < 256 := UInt8.toNat_lt _
        have hd := drop_bytes s k hl
        rw [hd] at hg
        have X := Lib.hid (or_add N s[k].toNat k hN hlt)
        have hN' : N + s[k].toNat % 128 * 128 ^ k < 128 ^ (k + 1) := by
          rw [Nat.pow_succ]
          have : s[k].toNat % 128 * 128 ^ k ≤ 127 * 128 ^ k := Nat.mul_le_mul_right _ (by omega)
          omega
        have HN' := Lib.hid hN'
        clear hN hN' hd
        by_cases h1 : 128 ≤ s[k].toNat
        · rw [Nu.gl_more h1, ← ef] at hg
          have HG := Lib.hid hg
          clear hg hf ef
          go_wp2
          go_round
          case rel => exact ⟨k + 1, _, by omega, by omega, by go_num, by rw [X.out], HN'.out, HG.out⟩
          case measure => simp [intOf]; omega
        · by_cases h2 : s[k].toNat = 0 ∧ 0 < k
          · rw [Nu.gl_form h2.1 h2.2] at hg
            have HG := Lib.hid hg
            obtain ⟨h2, h3⟩ := h2
            clear hg hf ef
            go_wp2
            go_ret3
            exact ⟨GlIs.of HG.out, rfl⟩
          · rw [Nu.gl_last (by omega) h2] at hg
            have HG := Lib.hid hg
            clear hg hf ef
            by_cases h3 : s[k].toNat = 0
            · obtain rfl : k = 0 := by omega
              obtain rfl : N = 0 := by simpa using HN.out
              have hg0 : Nu.glen s.data.toList = (0, 1, 0) := by rw [HG.out, h3]
              have HG0 := Lib.hid hg0
              clear h2 hg0 HN HN' X HG
              go_wp2
              go_ret3
              refine ⟨?_, rfl⟩
              have hb0 : bits .or .i64 ((0 : Nat) : Int) 0 = 0 := by decide
              have := GlIs.of HG0.out
              refine Eq.mpr ?_ this
              first | rfl | (simp [hb0])
            · clear h2
              go_wp2
              go_ret3
              refine ⟨?_, rfl⟩
              have := GlIs.of HG.out
              rw [← X.out] at this
              exact this
      · obtain rfl : k = s.size := by omega
        have hd : s.data.toList.drop s.size = [] := List.drop_of_length_le (by simp)
        rw [hd] at hg
        have HG := Lib.hid hg
        clear hg hf ef hd
        have t0 : ((s.size : Int) == (s.size : Int)) = true := by simp
        go_wp2
        go_ret3
        exact ⟨GlIs.of (HG.out.trans rfl), rfl⟩
    · obtain rfl : k = 4 := by omega
      have HG := Lib.hid hg
      clear hg hN
      go_wp2
      go_ret3
      exact ⟨GlIs.of (HG.out.trans rfl), rfl⟩
end Go.Proofs.YtaoaebdjinlcnaaDoor.Un
