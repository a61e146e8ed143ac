/-
  Plain mathematics, no program, for the layers that stand on shares: what is joined tells the third share; the noise that is reckoned from two shares; a value through three points is linear in them; three values tell all.
-/
import Derived.Test.YtgfnpemonpebpaaSm
namespace Sx
open Gf
set_option linter.unusedVariables false
set_option linter.unusedSimpArgs false
/-- with two points held, what comes out at 0 tells the third value -/
theorem tell_inj {X Y Z y1 y2 y3 z3 : Nat} (hX : X < 256) (hY : Y < 256) (hZ : Z < 256) (h1 : y1 < 256) (h2 : y2 < 256) (h3 : y3 < 256) (k3 : z3 < 256) (X0 : X ≠ 0) (Y0 : Y ≠ 0) (hXY : X ≠ Y) (hXZ : X ≠ Z) (hYZ : Y ≠ Z)
    (h : atk [X, Y, Z] [y1, y2, y3] 0 3 = atk [X, Y, Z] [y1, y2, z3] 0 3) : y3 = z3 := by
  obtain ⟨c0, c1, c2, k0, k1, k2, hk, e1, e2, e3⟩ := poly3 hX hY hZ h1 h2 h3 hXY hXZ hYZ
  obtain ⟨d0, d1, d2, l0, l1, l2, hl, f1, f2, f3⟩ := poly3 hX hY hZ h1 h2 k3 hXY hXZ hYZ
  rw [hk 0 (by omega), hl 0 (by omega), ev_zero3 k1 k2, ev_zero3 l1 l2] at h
  have a := through3 (x3 := 0) hX hY (by omega) k0 k1 k2 hXY X0 Y0 Z hZ
  have b := through3 (x3 := 0) hX hY (by omega) l0 l1 l2 hXY X0 Y0 Z hZ
  rw [e1, e2, ev_zero3 k1 k2, e3] at a
  rw [f1, f2, ev_zero3 l1 l2, f3] at b
  rw [← a, ← b, h]
theorem mul_back {v o X : Nat} (hv : v < 256) (ho : o < 256) (hX : X < 256) (X0 : X ≠ 0) : mul (mul (v ^^^ o) (inv X)) X ^^^ o = v := by
  have hd := xor_lt hv ho
  rw [mul_assoc _ _ _ hd (inv_lt X hX) hX, mul_comm (inv X) X (inv_lt X hX) hX, mul_inv X hX X0, mul_one _ hd, Nat.xor_assoc, Nat.xor_self, Nat.xor_zero]
/-- the noise that is reckoned from two values fits both -/
theorem fit_two {v w o X Y : Nat} (hv : v < 256) (hw : w < 256) (ho : o < 256) (hX : X < 256) (hY : Y < 256) (X0 : X ≠ 0) (Y0 : Y ≠ 0) (hXY : X ≠ Y) {p q hi : Nat}
    (hp : p = mul (v ^^^ o) (inv X)) (hq : q = mul (w ^^^ o) (inv Y)) (hh : hi = mul (p ^^^ q) (inv (X ^^^ Y))) :
    ev [o, p ^^^ mul hi X, hi] X = v ∧ ev [o, p ^^^ mul hi X, hi] Y = w := by
  have lp : p < 256 := by rw [hp]; exact mul_lt _ _ (xor_lt hv ho)
  have lq : q < 256 := by rw [hq]; exact mul_lt _ _ (xor_lt hw ho)
  have lpq := xor_lt lp lq
  have lh : hi < 256 := by rw [hh]; exact mul_lt _ _ lpq
  have lX := xor_lt hX hY
  have x0 : X ^^^ Y ≠ 0 := xor_ne hXY
  have hpq : mul hi (X ^^^ Y) = p ^^^ q := by
    rw [hh, mul_assoc _ _ _ lpq (inv_lt _ lX) lX, mul_comm (inv (X ^^^ Y)) _ (inv_lt _ lX) lX, mul_inv _ lX x0, mul_one _ lpq]
  constructor
  · simp only [ev, zero_mul, Nat.zero_xor]
    rw [show mul hi X ^^^ (p ^^^ mul hi X) = p from by rw [Nat.xor_comm p, ← Nat.xor_assoc, Nat.xor_self, Nat.zero_xor], hp]
    exact mul_back hv ho hX X0
  · simp only [ev, zero_mul, Nat.zero_xor]
    have e : mul hi Y ^^^ (p ^^^ mul hi X) = q := by
      rw [Nat.xor_comm p, ← Nat.xor_assoc, ← mul_add_right, Nat.xor_comm Y X, hpq, Nat.xor_comm p q, Nat.xor_assoc, Nat.xor_self, Nat.xor_zero]
    rw [e, hq]
    exact mul_back hw ho hY Y0
/-- a value through three points, by the three weights -/
theorem lin3 {a b c x y0 y1 y2 : Nat} (ha : a < 256) (hb : b < 256) (hc : c < 256) (hx : x < 256) (h0 : y0 < 256) (h1 : y1 < 256) (h2 : y2 < 256) :
    atk [a, b, c] [y0, y1, y2] x 3 = mul (atk [a, b, c] [1, 0, 0] x 3) y0 ^^^ mul (atk [a, b, c] [0, 1, 0] x 3) y1 ^^^ mul (atk [a, b, c] [0, 0, 1] x 3) y2 := by
  have w0 := wt_lt [a, b, c] 0 x
  have w1 := wt_lt [a, b, c] 1 x
  have w2 := wt_lt [a, b, c] 2 x
  have g : ∀ u v w, atk [a, b, c] [u, v, w] x 3 = mul u (wt [a, b, c] 0 x) ^^^ mul v (wt [a, b, c] 1 x) ^^^ mul w (wt [a, b, c] 2 x) := fun u v w => by
    simp [atk, nth_eq]
  rw [g, g, g, g]
  simp only [zero_mul, Nat.xor_zero, Nat.zero_xor]
  rw [mul_comm 1 _ (by omega) w0, mul_comm 1 _ (by omega) w1, mul_comm 1 _ (by omega) w2, mul_one _ w0, mul_one _ w1, mul_one _ w2, mul_comm _ y0 w0 h0, mul_comm _ y1 w1 h1, mul_comm _ y2 w2 h2]
end Sx
