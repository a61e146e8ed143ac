/-
  THE WALKS of the small functions: a number by another one rounded down, the years with a day more, the days of a month.
-/
import Derived.Test.YtgjpopndjnbkaaaProg
import Derived.Test.YtgjpopndjnbkaaaCal
import Derived.WalkKit
import Derived.WalkSpells
import Derived.Lib.Hide
import Derived.Below
import Derived.OwnWalk
import Derived.WalkLawsBesides
import Derived.Deep.QuietTactic
import Derived.BigQuiet
import Derived.Deep.Draws
namespace Go.Proofs.Ytgjpopndjnbkaaa
open Go.RowKit
def Dr (w w' : World) : Prop := ∃ n, w' = w.drewN n
theorem Dr.refl (w : World) : Dr w w := ⟨0, rfl⟩
theorem Dr.trans {a b c : World} (h : Dr a b) (k : Dr b c) : Dr a c := by
  obtain ⟨n, rfl⟩ := h
  obtain ⟨m, rfl⟩ := k
  exact ⟨n + m, by rw [World.drewN_drewN]⟩
theorem Dr.drewN {a b : World} (h : Dr a b) (n : Nat) : Dr a (b.drewN n) := h.trans ⟨n, rfl⟩
theorem Dr.size {a b : World} (h : Dr a b) : b.heap.size = a.heap.size := by obtain ⟨n, rfl⟩ := h; rfl
theorem below_dr {B : Nat} {a w w' : World} (h : Below B a w) (k : Dr w w') : Below B a w' := by
  obtain ⟨n, rfl⟩ := k
  exact ⟨h.os, h.tape, h.output, h.size, h.block⟩
theorem Dr.below {a b : World} {B : Nat} (h : Dr a b) : Below B a b := below_dr (Below.refl B a) h

theorem quo_pos {n b : Int} (h : 0 ≤ n) : n.tdiv b = n / b := Int.tdiv_eq_ediv_of_nonneg h
theorem rem_pos {n b : Int} (h : 0 ≤ n) : n.tmod b = n % b := Int.tmod_eq_emod_of_nonneg h
theorem tmod_gt (n b : Int) (hb : 0 < b) : -b < n.tmod b := by
  rcases Int.le_total 0 n with h | h
  · have := Int.tmod_nonneg b h; omega
  · have e : n.tmod b = - (-n).tmod b := by rw [Int.neg_tmod]; omega
    have := Int.tmod_lt_of_pos (-n) hb; omega
/-- the two numbers of a division that rounds to nought, against the one that rounds down -/
theorem quo_rem (n b : Int) (hb : 0 < b) : (n.tmod b < 0 → n / b = n.tdiv b - 1 ∧ n % b = n.tmod b + b) ∧ (¬ n.tmod b < 0 → n / b = n.tdiv b ∧ n % b = n.tmod b) := by
  have h1 := Int.tmod_add_mul_tdiv n b
  have h3 : n.tmod b < b := Int.tmod_lt_of_pos n hb
  have h4 := tmod_gt n b hb
  have key : ∀ q r : Int, r + b * q = n → 0 ≤ r → r < b → n / b = q ∧ n % b = r := fun q r h hr hr' => by
    subst h
    rw [Int.add_mul_ediv_left _ _ (by omega), Int.ediv_eq_zero_of_lt hr hr', Int.add_mul_emod_self_left, Int.emod_eq_of_lt hr hr']
    omega
  constructor
  · intro h
    refine key _ _ ?_ (by omega) (by omega)
    rw [Int.mul_sub]; omega
  · intro h
    exact key _ _ h1 (by omega) h3

theorem half {n b : Int} (h0 : -9223372036854775808 ≤ n) (h1 : n ≤ 9223372036854775807) (hb : 2 ≤ b) : -4611686018427387904 ≤ n / b ∧ n / b ≤ 4611686018427387904 := by
  constructor
  · rw [Int.le_ediv_iff_mul_le (by omega)]; omega
  · have h : n / b < 4611686018427387904 + 1 := by
      rw [Int.ediv_lt_iff_lt_mul (by omega)]; omega
    omega
theorem parted_any (n b : Int) (w : World) (h0 : -9223372036854775808 ≤ n) (h1 : n ≤ 9223372036854775807) (hb : 2 ≤ b) (hb1 : b ≤ 1000000) :
    Calls Try.prog 23 #[.int .i64 n, .int .i64 b] w fun e w' => e = .returned (.tuple #[.int .i64 (n / b), .int .i64 (n % b)]) ∧ Dr w w' := by
  obtain ⟨Q1, Q2⟩ := quo_rem n b (by omega)
  obtain ⟨l0, l1⟩ := half h0 h1 hb
  have m0 := Int.emod_nonneg n (b := b) (by omega)
  have m1 := Int.emod_lt_of_pos n (b := b) (by omega)
  have z0 : (b == 0) = false := by rw [beq_eq_false_iff_ne]; omega
  by_cases hr : n.tmod b < 0
  · obtain ⟨e1, e2⟩ := Q1 hr
    have w1 : IntKind.i64.wrap (n.tdiv b) = n / b + 1 := by rw [IntWalk.i64_quo' _ _ ⟨h0, h1, by omega⟩]; omega
    have w2 : n.tmod b = n % b - b := by omega
    clear Q1 Q2 e1 e2
    rw [w2] at hr
    go_enter Try.func23, Try.ntmps23
    go_wp2
    go_quiet (fail)
    go_wp2
    go_ret2
    exact ⟨rfl, Dr.drewN (Dr.refl w) _⟩
  · obtain ⟨e1, e2⟩ := Q2 hr
    have w1 : IntKind.i64.wrap (n.tdiv b) = n / b := by rw [IntWalk.i64_quo' _ _ ⟨h0, h1, by omega⟩]; omega
    have w2 : n.tmod b = n % b := by omega
    clear Q1 Q2 e1 e2
    rw [w2] at hr
    go_enter Try.func23, Try.ntmps23
    go_wp2
    go_quiet (fail)
    go_wp2
    go_ret2
    exact ⟨rfl, Dr.drewN (Dr.refl w) _⟩
theorem floor_any (n b : Int) (w : World) (h0 : -9223372036854775808 ≤ n) (h1 : n ≤ 9223372036854775807) (hb : 2 ≤ b) (hb1 : b ≤ 1000000) :
    Calls Try.prog 24 #[.int .i64 n, .int .i64 b] w fun e w' => e = .returned (.int .i64 (n / b)) ∧ w = w' := by
  obtain ⟨Q1, Q2⟩ := quo_rem n b (by omega)
  obtain ⟨l0, l1⟩ := half h0 h1 hb
  have m0 := Int.emod_nonneg n (b := b) (by omega)
  have m1 := Int.emod_lt_of_pos n (b := b) (by omega)
  have z0 : (b == 0) = false := by rw [beq_eq_false_iff_ne]; omega
  by_cases hr : n.tmod b < 0
  · obtain ⟨e1, e2⟩ := Q1 hr
    have w1 : IntKind.i64.wrap (n.tdiv b) = n / b + 1 := by rw [IntWalk.i64_quo' _ _ ⟨h0, h1, by omega⟩]; omega
    have w2 : n.tmod b = n % b - b := by omega
    clear Q1 Q2 e1 e2
    rw [w2] at hr
    go_enter Try.func24, Try.ntmps24
    go_wp2
    go_ret
    exact ⟨rfl, rfl⟩
  · obtain ⟨e1, e2⟩ := Q2 hr
    have w1 : IntKind.i64.wrap (n.tdiv b) = n / b := by rw [IntWalk.i64_quo' _ _ ⟨h0, h1, by omega⟩]; omega
    have w2 : n.tmod b = n % b := by omega
    clear Q1 Q2 e1 e2
    rw [w2] at hr
    go_enter Try.func24, Try.ntmps24
    go_wp2
    go_ret
    exact ⟨rfl, rfl⟩

theorem rem0 (y b : Int) (hb : 0 < b) : (y.tmod b == 0) = (y % b == 0) := by
  obtain ⟨Q1, Q2⟩ := quo_rem y b hb
  have m0 := Int.emod_nonneg y (b := b) (by omega)
  have m1 := Int.emod_lt_of_pos y (b := b) (by omega)
  have m2 := tmod_gt y b hb
  rw [Bool.eq_iff_iff, beq_iff_eq, beq_iff_eq]
  by_cases hr : y.tmod b < 0
  · have := Q1 hr; omega
  · have := Q2 hr; omega
theorem leap_any (y : Int) (w : World) : Calls Try.prog 38 #[.int .i64 y] w fun e w' => e = .returned (.bool (Cal.leap y)) ∧ w = w' := by
  have r4 := rem0 y 4 (by omega)
  have r100 := rem0 y 100 (by omega)
  have r400 := rem0 y 400 (by omega)
  have R : Cal.leap y = (y.tmod 4 == 0 && (!(y.tmod 100 == 0) || y.tmod 400 == 0)) := by unfold Cal.leap; rw [r4, r100, r400]
  rw [R]
  clear R r4 r100 r400
  go_enter Try.func38, Try.ntmps38
  go_wp2
  all_goals go_ret
  all_goals (refine ⟨?_, rfl⟩; congr 2; simp_all)
theorem rleap_any (y : Int) (w : World) : Calls Try.prog 35 #[.int .i64 y] w fun e w' => e = .returned (.bool (Cal.leap y)) ∧ w = w' := by
  have r4 := rem0 y 4 (by omega)
  have r100 := rem0 y 100 (by omega)
  have r400 := rem0 y 400 (by omega)
  have R : Cal.leap y = (y.tmod 4 == 0 && (!(y.tmod 100 == 0) || y.tmod 400 == 0)) := by unfold Cal.leap; rw [r4, r100, r400]
  rw [R]
  clear R r4 r100 r400
  go_enter Try.func35, Try.ntmps35
  go_wp2
  all_goals go_ret
  all_goals (refine ⟨?_, rfl⟩; congr 2; simp_all)
theorem mdays_any (y m : Int) (w : World) (hm : 0 ≤ m) (hm' : m < 12) : Calls Try.prog 36 #[.int .i64 y, .int .i64 m] w fun e w' => e = .returned (.int .i64 (Cal.dm y m)) ∧ Below w.heap.size w w' := by
  by_cases h : m = 1
  · subst h
    go_enter Try.func36, Try.ntmps36
    go_wp2_with fail
    refine (leap_any _ _).mono ?_
    rintro e w1 ⟨rfl, rfl⟩
    cases hl : Cal.leap y
    · go_wp2
      go_ret
      refine ⟨?_, (Below.refl _ w).alloc (Nat.le_refl _) _⟩
      unfold Cal.dm
      rw [if_pos rfl, hl]
      rfl
    · go_wp2
      go_ret
      refine ⟨?_, (Below.refl _ w).alloc (Nat.le_refl _) _⟩
      unfold Cal.dm
      rw [if_pos rfl, hl]
      rfl
  · have hd : decide (m = 1) = false := by simp [h]
    have hb : (m == 1) = false := by rw [beq_eq_false_iff_ne]; exact h
    go_enter Try.func36, Try.ntmps36
    go_wp2
    go_ret
    refine ⟨?_, (Below.refl _ w).alloc (Nat.le_refl _) _⟩
    clear hd hb
    obtain ⟨k, rfl⟩ := Int.eq_ofNat_of_zero_le hm
    unfold Cal.dm
    rw [if_neg h]
    match k, hm', h with
    | 0, _, _ => rfl
    | 1, _, h => exact absurd rfl h
    | 2, _, _ => rfl
    | 3, _, _ => rfl
    | 4, _, _ => rfl
    | 5, _, _ => rfl
    | 6, _, _ => rfl
    | 7, _, _ => rfl
    | 8, _, _ => rfl
    | 9, _, _ => rfl
    | 10, _, _ => rfl
    | 11, _, _ => rfl
    | (n + 12), h', _ => exact absurd h' (by omega)
set_option maxHeartbeats 400000 in
theorem rdays_any (y m : Int) (w : World) (hm : 1 ≤ m) (hm' : m ≤ 12) : Calls Try.prog 34 #[.int .i64 y, .int .i64 m] w fun e w' => e = .returned (.int .i64 (Cal.dm y (m - 1))) ∧ w = w' := by
  by_cases h : m = 2
  · subst h
    go_enter Try.func34, Try.ntmps34
    go_wp2_with fail
    refine (rleap_any _ _).mono ?_
    rintro e w1 ⟨rfl, rfl⟩
    cases hl : Cal.leap y
    · go_wp2
      go_ret
      refine ⟨?_, rfl⟩
      unfold Cal.dm
      rw [show (2 : Int) - 1 = 1 from rfl, if_pos rfl, hl]
      rfl
    · go_wp2
      go_ret
      refine ⟨?_, rfl⟩
      unfold Cal.dm
      rw [show (2 : Int) - 1 = 1 from rfl, if_pos rfl, hl]
      rfl
  · obtain ⟨k, rfl⟩ := Int.eq_ofNat_of_zero_le (by omega : 0 ≤ m)
    match k, hm, hm', h with
    | 1, _, _, _ => (go_enter Try.func34, Try.ntmps34; go_wp2; go_ret; exact ⟨rfl, rfl⟩)
    | 2, _, _, h => exact absurd rfl h
    | 3, _, _, _ => (go_enter Try.func34, Try.ntmps34; go_wp2; go_ret; exact ⟨rfl, rfl⟩)
    | 4, _, _, _ => (go_enter Try.func34, Try.ntmps34; go_wp2; go_ret; exact ⟨rfl, rfl⟩)
    | 5, _, _, _ => (go_enter Try.func34, Try.ntmps34; go_wp2; go_ret; exact ⟨rfl, rfl⟩)
    | 6, _, _, _ => (go_enter Try.func34, Try.ntmps34; go_wp2; go_ret; exact ⟨rfl, rfl⟩)
    | 7, _, _, _ => (go_enter Try.func34, Try.ntmps34; go_wp2; go_ret; exact ⟨rfl, rfl⟩)
    | 8, _, _, _ => (go_enter Try.func34, Try.ntmps34; go_wp2; go_ret; exact ⟨rfl, rfl⟩)
    | 9, _, _, _ => (go_enter Try.func34, Try.ntmps34; go_wp2; go_ret; exact ⟨rfl, rfl⟩)
    | 10, _, _, _ => (go_enter Try.func34, Try.ntmps34; go_wp2; go_ret; exact ⟨rfl, rfl⟩)
    | 11, _, _, _ => (go_enter Try.func34, Try.ntmps34; go_wp2; go_ret; exact ⟨rfl, rfl⟩)
    | 12, _, _, _ => (go_enter Try.func34, Try.ntmps34; go_wp2; go_ret; exact ⟨rfl, rfl⟩)
    | 0, h', _, _ => exact absurd h' (by omega)
    | (n + 13), _, h', _ => exact absurd h' (by omega)
end Go.Proofs.Ytgjpopndjnbkaaa
