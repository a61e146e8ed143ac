/-
  TEXTS of an instruction: digits, registers; the document's dec and reg, the code's register.
-/
import Derived.Test.YtmafeekhbcpomaaDoorIn
import Derived.Test.YtmafeekhbcpomaaDoorSh
namespace Go.Proofs.YtmafeekhbcpomaaDoor
open Go.RowKit
set_option linter.unusedVariables false
theorem ret_str {a b : ByteArray} (h : a = b) : Ending.returned (.string a) = .returned (.string b) := by rw [h]
/-- bytes as a text -/
def st (l : List UInt8) : ByteArray := ⟨l.toArray⟩
theorem st_size (l : List UInt8) : (st l).size = l.length := by simp [st, ByteArray.size]
theorem st_app (a b : List UInt8) : st a ++ st b = st (a ++ b) := by
  apply ByteArray.ext
  simp [st]
theorem st_inj {a b : List UInt8} (h : st a = st b) : a = b := by
  have := congrArg (fun s : ByteArray => s.data.toList) h
  simpa [st] using this
theorem dig10 : ∀ n, n < 10 → Lib.decDigits n = [UInt8.ofNat (48 + n)] := fun n h => Lib.decDigits_one h
theorem dig_len : ∀ (k n : Nat), n < 10 ^ (k + 1) → (Lib.decDigits n).length ≤ k + 1
  | 0, n, h => by rw [dig10 n (by simpa using h)]; simp
  | k + 1, n, h => by
    rw [Lib.decDigits]
    split
    · simp
    · rw [List.length_append]
      have := dig_len k (n / 10) (by rw [Nat.pow_succ] at h; omega)
      simp; omega
theorem dig_next (n : Nat) (h : ¬ n < 10) : Lib.decDigits (n / 10) ++ Lib.decDigits (n % 10) = Lib.decDigits n := by
  rw [dig10 (n % 10) (by omega)]
  conv => rhs; rw [Lib.decDigits, dif_neg h]
theorem dig_one : ∀ n, n < 10 → (⟨#[48, 49, 50, 51, 52, 53, 54, 55, 56, 57]⟩ : ByteArray).extract n (n + 1) = st [UInt8.ofNat (48 + n)] := by decide +kernel
set_option maxRecDepth 100000 in
theorem dig_any (k : Nat) : ∀ (n : Nat) (w : World), n ≤ k → n < 1000000 →
    Calls Tryd.prog 34 #[.int .i32 n] w fun e w' => e = .returned (.string (st (Lib.decDigits n))) ∧ w = w' := by
  induction k with
  | zero =>
    intro n w hk _
    obtain rfl : n = 0 := by omega
    go_enter Tryd.func34, Tryd.ntmps34
    go_wp2_with fail
    go_ret
    exact ⟨ret_str (by rw [dig10 0 (by omega)]; rfl), rfl⟩
  | succ k ih =>
    intro n w hk hn
    by_cases h : n < 10
    · have b : (n : Int) < 10 := by omega
      go_enter Tryd.func34, Tryd.ntmps34
      go_wp2_with fail
      go_ret
      exact ⟨ret_str (by rw [dig10 n h]; exact dig_one n h), rfl⟩
    · have b : ¬ (n : Int) < 10 := by omega
      have h1 := fun wr => ih (n / 10) wr (by omega) (by omega)
      have h2 := fun wr => ih (n % 10) wr (by omega) (by omega)
      have l1 : (st (Lib.decDigits (n / 10))).size ≤ 7 := by rw [st_size]; exact dig_len 6 _ (by omega)
      have l2 : (st (Lib.decDigits (n % 10))).size ≤ 7 := by rw [st_size]; exact dig_len 6 _ (by omega)
      have e := dig_next n h
      have HE := Lib.hid e
      clear ih e
      go_enter Tryd.func34, Tryd.ntmps34
      go_wp2_with fail
      refine (h1 _).mono ?_
      rintro e w1 ⟨rfl, rfl⟩
      go_wp2_with fail
      refine (h2 _).mono ?_
      rintro e w1 ⟨rfl, rfl⟩
      go_wp2_with fail
      go_ret
      exact ⟨ret_str (by rw [st_app, HE.out]), rfl⟩
theorem itoa_len (n : Int) (h0 : -1000000 < n) (h1 : n < 1000000) : (Lib.itoa n).length ≤ 8 := by
  unfold Lib.itoa
  split
  · have := dig_len 6 n.natAbs (by omega); simp; omega
  · have := dig_len 6 n.toNat (by omega); omega
set_option maxRecDepth 100000 in
theorem dec_txt (n : Int) (w : World) (h0 : -1000000 < n) (h1 : n < 1000000) :
    Calls Tryd.prog 34 #[.int .i32 n] w fun e w' => e = .returned (.string (st (Lib.itoa n))) ∧ w = w' := by
  by_cases h : n < 0
  · obtain ⟨m, hm⟩ : ∃ m : Nat, n = -(m : Int) := ⟨n.natAbs, by omega⟩
    have hd := fun wr => dig_any m m wr (Nat.le_refl _) (by omega)
    have l1 : (st (Lib.decDigits m)).size ≤ 7 := by rw [st_size]; exact dig_len 6 _ (by omega)
    have e : Lib.itoa n = 45 :: Lib.decDigits m := by rw [hm]; exact Lib.itoa_neg m (by omega)
    have HE := Lib.hid e
    have b1 : -(-(m : Int)) = m := by omega
    subst hm
    clear e
    go_enter Tryd.func34, Tryd.ntmps34
    go_wp2_with fail
    refine (hd _).mono ?_
    rintro e w1 ⟨rfl, rfl⟩
    go_wp2_with fail
    go_ret
    exact ⟨ret_str (by rw [HE.out]; exact st_app [45] _), rfl⟩
  · obtain ⟨m, rfl⟩ : ∃ m : Nat, n = (m : Int) := ⟨n.toNat, by omega⟩
    rw [show Lib.itoa (m : Int) = Lib.decDigits m from Lib.itoa_nonneg m]
    exact dig_any m m w (Nat.le_refl _) (by omega)
/-- a register's text -/
def rt (r : Nat) : List UInt8 := 114 :: Lib.decDigits r
theorem rt_len (r : Nat) (h : r < 256) : (rt r).length ≤ 4 := by
  have := dig_len 2 r (by omega); simp [rt]; omega
set_option maxRecDepth 100000 in
theorem rreg_any (r : Nat) (w : World) (h : r < 256) : Calls Tryd.prog 33 #[.int .u8 r] w fun e w' => e = .returned (.string (st (rt r))) ∧ w = w' := by
  have hd := fun wr => dig_any r r wr (Nat.le_refl _) (by omega)
  have l1 : (st (Lib.decDigits r)).size ≤ 7 := by rw [st_size]; exact dig_len 6 _ (by omega)
  have b : (r : Int) < 256 := by omega
  go_enter Tryd.func33, Tryd.ntmps33
  go_wp2_with fail
  refine (hd _).mono ?_
  rintro e w1 ⟨rfl, rfl⟩
  go_wp2_with fail
  go_ret
  exact ⟨ret_str (st_app [114] _), rfl⟩
set_option maxRecDepth 100000 in
theorem reg_any (r : Nat) (w : World) (h : r < 16) : Calls Tryd.prog 29 #[.int .u8 r] w fun e w' => e = .returned (.string (st (rt r))) ∧ w = w' := by
  have hd : ∀ wr, Calls Tryd.prog 30 #[.int .i64 r] wr fun e w' => e = .returned (.string (st (Lib.decDigits r))) ∧ wr = w' := fun wr => (Tryd.strconv_Itoa_small r (by omega) wr).mono fun _ _ h => ⟨h.1, h.2.symm⟩
  have l1 : (st (Lib.decDigits r)).size ≤ 7 := by rw [st_size]; exact dig_len 6 _ (by omega)
  have b : (r : Int) < 16 := by omega
  go_enter Tryd.func29, Tryd.ntmps29
  go_wp2_with fail
  refine (hd _).mono ?_
  rintro e w1 ⟨rfl, rfl⟩
  go_wp2_with fail
  go_ret
  exact ⟨ret_str (st_app [114] _), rfl⟩
theorem below_itoa (w : World) (q : Nat) (os : Array Obj) : Below w.heap.size w (Go.Sort.grow (w.drewN q) os) :=
  ⟨rfl, rfl, rfl, by simp [Go.Sort.grow, World.drewN], fun k hk => by
    show (w.heap ++ os)[k]? = _
    rw [Array.getElem?_append_left hk]⟩
/-- parts, one behind the other, a comma and a blank between -/
def jn : List (List UInt8) → List UInt8
  | [] => []
  | [x] => x
  | x :: y :: r => x ++ [44, 32] ++ jn (y :: r)
theorem jn_len : ∀ (xs : List (List UInt8)), xs.length ≤ 3 → (∀ x ∈ xs, x.length ≤ 40) → (jn xs).length ≤ 126
  | [], _, _ => by simp [jn]
  | [a], _, h => by have := h a (by simp); simp [jn]; omega
  | [a, b], _, h => by have := h a (by simp); have := h b (by simp); simp [jn]; omega
  | [a, b, c], _, h => by have := h a (by simp); have := h b (by simp); have := h c (by simp); simp [jn]; omega
theorem jn_join : ∀ (xs : List (List UInt8)), xs.length ≤ 3 → Lib.join ((xs.map st).map (·.data.toList)) (⟨#[44, 32]⟩ : ByteArray).data.toList = jn xs
  | [], _ => by simp [jn, Lib.join]
  | [a], _ => by simp [jn, Lib.join, st]
  | [a, b], _ => by simp [jn, Lib.join, st, List.intercalate, List.intersperse]
  | [a, b, c], _ => by simp [jn, Lib.join, st, List.intercalate, List.intersperse]
set_option maxRecDepth 100000 in
theorem line_any (nm : List UInt8) (xs : List (List UInt8)) (g : Nat) (w : World) (hc : ∀ (j : Nat) x, xs[j]? = some x → w.cell? ⟨g, j, none⟩ = some (.string (st x))) (hg : g < w.heap.size) (n3 : xs.length ≤ 3) (hl : ∀ x ∈ xs, x.length ≤ 40) (hn : nm.length ≤ 40) :
    Calls Tryd.prog 31 #[.string (st nm), .slice (some ⟨g, 0, none⟩) xs.length xs.length] w fun e w' => e = .returned (.string (st (nm ++ 32 :: jn xs))) ∧ Below w.heap.size w w' := by
  have hj := Tryd.strings_Join g 0 xs.length (xs.map st) ⟨#[44, 32]⟩ w (by
      intro j x hx
      rw [List.getElem?_map, Option.map_eq_some_iff] at hx
      obtain ⟨y, hy, rfl⟩ := hx
      rw [Nat.zero_add]
      exact hc j y hy) hg (by simp; omega) (by simp) (by rw [jn_join xs n3]; have := jn_len xs n3 hl; omega)
  rw [jn_join xs n3, List.length_map] at hj
  change Calls Tryd.prog 36 _ _ (fun e w' => e = .returned (.string (st (jn xs))) ∧ _) at hj
  have l1 : (st nm).size ≤ 40 := by rw [st_size]; exact hn
  have l2 : (st (jn xs)).size ≤ 126 := by rw [st_size]; exact jn_len xs n3 hl
  generalize xs.length = n at *
  generalize jn xs = J at *
  clear hc hl
  go_enter Tryd.func31, Tryd.ntmps31
  go_wp2_with fail
  refine hj.mono ?_
  rintro e w1 ⟨rfl, hb⟩
  go_wp2_with fail
  go_ret
  exact ⟨ret_str (by rw [show (⟨#[32]⟩ : ByteArray) = st [32] from rfl, st_app, st_app, List.append_assoc]; rfl), hb⟩
end Go.Proofs.YtmafeekhbcpomaaDoor
