/-
  Plain mathematics, no program: the digest's words, mixes, blocks.
-/
set_option linter.unusedVariables false
set_option linter.unusedSimpArgs false
set_option maxRecDepth 100000
namespace Bl
/-- the i-th number of a list -/
def nth (l : List Nat) (i : Nat) : Nat := l.getD i 0
theorem nth_lt {l : List Nat} {i : Nat} (h : i < l.length) : nth l i = l[i] := by simp [nth, h]
theorem nth_get {l : List Nat} {i : Nat} (h : i < l.length) : l[i]? = some (nth l i) := by rw [nth_lt h]; simp [h]
theorem nth_set_eq {l : List Nat} {i x : Nat} (h : i < l.length) : nth (l.set i x) i = x := by simp [nth, h]
theorem nth_set_ne {l : List Nat} {i j x : Nat} (h : i ≠ j) : nth (l.set i x) j = nth l j := by simp [nth, List.getD_eq_getElem?_getD, List.getElem?_set, h]
/-- a word turned left -/
def rot (x k : Nat) : Nat := x * 2 ^ k % 4294967296 + x * 2 ^ k / 4294967296
theorem rot_or (x k : Nat) (hx : x < 4294967296) (hk : k ≤ 32) : (x * 2 ^ k % 4294967296) ||| (x / 2 ^ (32 - k)) = rot x k := by
  have e : (4294967296 : Nat) = 2 ^ (32 - k) * 2 ^ k := by rw [← Nat.pow_add, Nat.sub_add_cancel hk]
  have h1 : x * 2 ^ k % 4294967296 = (x % 2 ^ (32 - k)) <<< k := by
    rw [e, Nat.mul_mod_mul_right, Nat.shiftLeft_eq]
  have h2 : x * 2 ^ k / 4294967296 = x / 2 ^ (32 - k) := by
    rw [e, Nat.mul_div_mul_right _ _ (Nat.pow_pos (by omega))]
  have h3 : x / 2 ^ (32 - k) < 2 ^ k := by
    rw [Nat.div_lt_iff_lt_mul (Nat.pow_pos (by omega)), Nat.mul_comm, ← e]; exact hx
  unfold rot
  rw [h1, h2, Nat.shiftLeft_add_eq_or_of_lt h3]
theorem rot_lt (x k : Nat) (hx : x < 4294967296) (hk : k ≤ 32) : rot x k < 4294967296 := by
  rw [← rot_or x k hx hk]
  apply Nat.or_lt_two_pow (n := 32)
  · exact Nat.mod_lt _ (by decide)
  · exact Nat.lt_of_le_of_lt (Nat.div_le_self _ _) hx
def add (a b : Nat) : Nat := (a + b) % 4294967296
theorem add_lt (a b : Nat) : add a b < 4294967296 := Nat.mod_lt _ (by decide)
theorem xor_lt {a b : Nat} (ha : a < 4294967296) (hb : b < 4294967296) : a ^^^ b < 4294967296 := Nat.xor_lt_two_pow (n := 32) ha hb
/-- four numbers, mixed with two -/
structure Four where
  a : Nat
  b : Nat
  c : Nat
  d : Nat
def half (f : Four) (x r s : Nat) : Four :=
  let a := add (add f.a f.b) x
  let d := rot (f.d ^^^ a) r
  let c := add f.c d
  ⟨a, rot (f.b ^^^ c) s, c, d⟩
def mx (f : Four) (x y : Nat) : Four := half (half f x 16 20) y 24 25
def mixL (v : List Nat) (a b c d x y : Nat) : List Nat :=
  let f := mx ⟨nth v a, nth v b, nth v c, nth v d⟩ x y
  (((v.set a f.a).set b f.b).set c f.c).set d f.d
def sig : List (List Nat) := [[0, 1, 2, 3, 4, 5, 6, 7, 8, 9, 10, 11, 12, 13, 14, 15], [14, 10, 4, 8, 9, 15, 13, 6, 1, 12, 0, 2, 11, 7, 5, 3], [11, 8, 12, 0, 5, 2, 15, 13, 10, 14, 3, 6, 7, 1, 9, 4],
  [7, 9, 3, 1, 13, 12, 11, 14, 2, 6, 5, 10, 4, 0, 15, 8], [9, 0, 5, 7, 2, 4, 10, 15, 14, 1, 11, 12, 6, 8, 3, 13], [2, 12, 6, 10, 0, 11, 8, 3, 4, 13, 7, 5, 15, 14, 1, 9],
  [12, 5, 1, 15, 14, 13, 4, 10, 0, 7, 6, 3, 9, 2, 8, 11], [13, 11, 7, 14, 12, 1, 3, 9, 5, 0, 15, 4, 8, 6, 2, 10], [6, 15, 14, 9, 11, 3, 0, 8, 12, 2, 13, 7, 1, 4, 10, 5], [10, 2, 8, 4, 7, 6, 1, 5, 15, 11, 9, 14, 3, 12, 13, 0]]
def iv : List Nat := [1779033703, 3144134277, 1013904242, 2773480762, 1359893119, 2600822924, 528734635, 1541459225]
def sg (r i : Nat) : Nat := nth (sig.getD r []) i
/-- the places of the i-th mix -/
def pb (i : Nat) : Nat := 4 + (i + i / 4) % 4
def pc (i : Nat) : Nat := 8 + (i + 2 * (i / 4)) % 4
def pd (i : Nat) : Nat := 12 + (i + 3 * (i / 4)) % 4
def mixes (m : List Nat) (r : Nat) (v : List Nat) : Nat → List Nat
  | 0 => v
  | i + 1 => mixL (mixes m r v i) (i % 4) (pb i) (pc i) (pd i) (nth m (sg r (2 * i))) (nth m (sg r (2 * i + 1)))
def rounds (m : List Nat) (v : List Nat) : Nat → List Nat
  | 0 => v
  | r + 1 => mixes m r (rounds m v r) 8
/-- the sixteen numbers with which a block's rounds begin -/
def start (h : List Nat) (count : Nat) (last : Bool) : List Nat :=
  [nth h 0, nth h 1, nth h 2, nth h 3, nth h 4, nth h 5, nth h 6, nth h 7, nth iv 0, nth iv 1, nth iv 2, nth iv 3,
   nth iv 4 ^^^ count % 4294967296, nth iv 5 ^^^ count / 4294967296 % 4294967296, (if last then 4294967295 - nth iv 6 else nth iv 6), nth iv 7]
def fin (h v : List Nat) : List Nat := (List.range 8).map fun i => nth h i ^^^ nth v i ^^^ nth v (i + 8)
def take (h m : List Nat) (count : Nat) (last : Bool) : List Nat := fin h (rounds m (start h count last) 10)
def word (k : List Nat) (i : Nat) : Nat := nth k i + 256 * nth k (i + 1) + 65536 * nth k (i + 2) + 16777216 * nth k (i + 3)
def words (k : List Nat) : List Nat := (List.range 16).map fun i => word k (4 * i)
/-- all blocks but the last one: k of them, from the text's beginning on -/
def blocks (h : List Nat) (t : List Nat) : Nat → List Nat
  | 0 => h
  | k + 1 => take (blocks h t k) (words ((t.drop (64 * k)).take 64)) (64 * (k + 1)) false
/-- how many blocks stand ahead of the last one -/
def ahead (n : Nat) : Nat := (n - 1) / 64
def state (h t : List Nat) : List Nat :=
  take (blocks h t (ahead t.length)) (words (t.drop (64 * ahead t.length) ++ List.replicate (64 * (ahead t.length + 1) - t.length) 0)) t.length true
def digest (h t : List Nat) : List Nat := (List.range 32).map fun i => nth (state h t) (i / 4) / 256 ^ (i % 4) % 256
def h0 : List Nat := iv.set 0 (nth iv 0 ^^^ 16842784)
def hk : List Nat := iv.set 0 (nth iv 0 ^^^ 16842784 ^^^ 8192)
def sum (t : List Nat) : List Nat := digest h0 t
def keyed (k t : List Nat) : List Nat := digest hk (k ++ List.replicate 32 0 ++ t)
def sign (x : Nat) : Nat := if x < 10 then 48 + x else 87 + x
def hex (d : List Nat) : List Nat := d.flatMap fun x => [sign (x / 16), sign (x % 16)]
theorem abc : hex (sum [97, 98, 99]) = "508c5e8c327c14e2e1a72ba34eeb452f37458b209ed63a294d999b4c86675982".toList.map (·.toNat) := by decide +kernel
theorem none : hex (sum []) = "69217a3079908094e11121d042354a7c1f55b6482ca1a51e1b250dfd1ed0eef9".toList.map (·.toNat) := by decide +kernel
/-- the mix of a list, number by number, is the mix of four -/
theorem mixL_seq {v : List Nat} {a b c d : Nat} (x y : Nat) (ha : a < v.length) (hb : b < v.length) (hc : c < v.length) (hd : d < v.length) (ab : a ≠ b) (ac : a ≠ c) (ad : a ≠ d) (bc : b ≠ c) (bd : b ≠ d) (cd : c ≠ d)
    {v1 v2 v3 v4 v5 v6 v7 v8 : List Nat} (e1 : v1 = v.set a (add (add (nth v a) (nth v b)) x)) (e2 : v2 = v1.set d (rot (nth v1 d ^^^ nth v1 a) 16)) (e3 : v3 = v2.set c (add (nth v2 c) (nth v2 d))) (e4 : v4 = v3.set b (rot (nth v3 b ^^^ nth v3 c) 20))
    (e5 : v5 = v4.set a (add (add (nth v4 a) (nth v4 b)) y)) (e6 : v6 = v5.set d (rot (nth v5 d ^^^ nth v5 a) 24)) (e7 : v7 = v6.set c (add (nth v6 c) (nth v6 d))) (e8 : v8 = v7.set b (rot (nth v7 b ^^^ nth v7 c) 25)) :
    v8 = mixL v a b c d x y := by
  have ba := ab.symm; have ca := ac.symm; have da := ad.symm; have cb := bc.symm; have db := bd.symm; have dc := cd.symm
  subst e1 e2 e3 e4 e5 e6 e7 e8
  simp only [nth_set_ne, nth_set_eq, List.length_set, ha, hb, hc, hd, ab, ac, ad, bc, bd, cd, ba, ca, da, cb, db, dc, ne_eq, not_false_eq_true, mixL, mx, half]
  apply List.ext_getElem?
  intro i
  simp only [List.getElem?_set, List.length_set]
  by_cases i1 : a = i
  · subst i1; simp [ha, ba, ca, da]
  · by_cases i2 : b = i
    · subst i2; simp [hb, ab, cb, db]
    · by_cases i3 : c = i
      · subst i3; simp [hc, ac, bc, dc]
      · by_cases i4 : d = i
        · subst i4; simp [hd, ad, bd, cd]
        · simp [i1, i2, i3, i4]
/-- so many words -/
def Ok (n : Nat) (l : List Nat) : Prop := l.length = n ∧ ∀ x ∈ l, x < 4294967296
theorem Ok.nth {n : Nat} {l : List Nat} (h : Ok n l) (i : Nat) : Bl.nth l i < 4294967296 := by
  by_cases hi : i < l.length
  · rw [nth_lt hi]; exact h.2 _ (List.getElem_mem hi)
  · unfold Bl.nth; rw [List.getD_eq_getElem?_getD, List.getElem?_eq_none (by omega)]; decide
theorem Ok.set {n : Nat} {l : List Nat} (h : Ok n l) (i x : Nat) (hx : x < 4294967296) : Ok n (l.set i x) := by
  refine ⟨by rw [List.length_set]; exact h.1, fun y hy => ?_⟩
  rcases List.mem_or_eq_of_mem_set hy with hy | rfl
  · exact h.2 y hy
  · exact hx
def Four.Ok (f : Four) : Prop := f.a < 4294967296 ∧ f.b < 4294967296 ∧ f.c < 4294967296 ∧ f.d < 4294967296
theorem half_ok {f : Four} (h : f.Ok) (x r s : Nat) (hr : r ≤ 32) (hs : s ≤ 32) : (half f x r s).Ok :=
  ⟨add_lt _ _, rot_lt _ _ (xor_lt h.2.1 (add_lt _ _)) hs, add_lt _ _, rot_lt _ _ (xor_lt h.2.2.2 (add_lt _ _)) hr⟩
theorem mx_ok {f : Four} (h : f.Ok) (x y : Nat) : (mx f x y).Ok := half_ok (half_ok h x 16 20 (by decide) (by decide)) y 24 25 (by decide) (by decide)
theorem mixL_ok {v : List Nat} {n : Nat} (h : Ok n v) (a b c d x y : Nat) : Ok n (mixL v a b c d x y) := by
  have hm := mx_ok (f := ⟨nth v a, nth v b, nth v c, nth v d⟩) ⟨h.nth a, h.nth b, h.nth c, h.nth d⟩ x y
  unfold mixL
  exact (((h.set _ _ hm.1).set _ _ hm.2.1).set _ _ hm.2.2.1).set _ _ hm.2.2.2
theorem mixes_ok {m v : List Nat} {n : Nat} (h : Ok n v) (r : Nat) : ∀ i, Ok n (mixes m r v i)
  | 0 => h
  | i + 1 => mixL_ok (mixes_ok h r i) _ _ _ _ _ _
theorem rounds_ok {m v : List Nat} {n : Nat} (h : Ok n v) : ∀ r, Ok n (rounds m v r)
  | 0 => h
  | r + 1 => mixes_ok (rounds_ok h r) r 8
theorem start_ok {h : List Nat} (hh : Ok 8 h) (count : Nat) (last : Bool) : Ok 16 (start h count last) := by
  refine ⟨rfl, fun x hx => ?_⟩
  have m := Nat.mod_lt count (show 0 < 4294967296 by decide)
  have m2 := Nat.mod_lt (count / 4294967296) (show 0 < 4294967296 by decide)
  simp only [start, List.mem_cons, List.not_mem_nil, or_false] at hx
  have i4 : nth iv 4 < 4294967296 := by decide
  have i5 : nth iv 5 < 4294967296 := by decide
  rcases hx with h | h | h | h | h | h | h | h | h | h | h | h | h | h | h | h <;> subst h
  all_goals first | exact hh.nth _ | exact xor_lt i4 m | exact xor_lt i5 m2 | decide | (cases last <;> decide)
theorem fin_ok {h v : List Nat} (hh : Ok 8 h) (hv : Ok 16 v) : Ok 8 (fin h v) := by
  refine ⟨by simp [fin], fun x hx => ?_⟩
  obtain ⟨i, _, rfl⟩ := List.mem_map.1 hx
  exact xor_lt (xor_lt (hh.nth _) (hv.nth _)) (hv.nth _)
theorem take_ok {h m : List Nat} (hh : Ok 8 h) (count : Nat) (last : Bool) : Ok 8 (take h m count last) := fin_ok hh (rounds_ok (start_ok hh count last) 10)
theorem blocks_ok {h t : List Nat} (hh : Ok 8 h) : ∀ k, Ok 8 (blocks h t k)
  | 0 => hh
  | k + 1 => take_ok (blocks_ok hh k) _ _
theorem state_ok {h t : List Nat} (hh : Ok 8 h) : Ok 8 (state h t) := take_ok (blocks_ok hh _) _ _
theorem iv_ok : Ok 8 iv := ⟨rfl, by decide⟩
theorem h0_ok : Ok 8 h0 := ⟨rfl, by decide⟩
theorem hk_ok : Ok 8 hk := ⟨rfl, by decide⟩
/-- bytes -/
def By (k : List Nat) : Prop := ∀ x ∈ k, x < 256
theorem By.nth {k : List Nat} (h : By k) (i : Nat) : Bl.nth k i < 256 := by
  by_cases hi : i < k.length
  · rw [nth_lt hi]; exact h _ (List.getElem_mem hi)
  · unfold Bl.nth; rw [List.getD_eq_getElem?_getD, List.getElem?_eq_none (by omega)]; decide
theorem By.word {k : List Nat} (h : By k) (i : Nat) : word k i < 4294967296 := by
  have := h.nth i; have := h.nth (i + 1); have := h.nth (i + 2); have := h.nth (i + 3)
  unfold Bl.word; omega
theorem words_ok {k : List Nat} (h : By k) : Ok 16 (words k) := by
  refine ⟨by simp [words], fun x hx => ?_⟩
  obtain ⟨i, _, rfl⟩ := List.mem_map.1 hx
  exact h.word _
theorem sg_lt (r i : Nat) (hr : r < 10) (hi : i < 16) : sg r i < 16 := by
  have d : ∀ r, r < 10 → ∀ i, i < 16 → sg r i < 16 := by decide +kernel
  exact d r hr i hi
theorem digest_length (h t : List Nat) : (digest h t).length = 32 := by simp [digest]
theorem digest_by (h t : List Nat) : By (digest h t) := fun x hx => by
  obtain ⟨i, _, rfl⟩ := List.mem_map.1 hx
  exact Nat.mod_lt _ (by decide)
end Bl
