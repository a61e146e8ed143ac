/-
  PLAIN MATHEMATICS OF THE FIVE PARTS: what a part's bytes are, what three of them tell, that these are the text's; sums; a byte that is another one.
-/
import Derived.Test.YtgfnpemonpebpaaSt
namespace Go.Proofs.Ytgfnpemonpebpaa
set_option linter.unusedVariables false
set_option linter.unusedSimpArgs false
namespace Pa
open Gf Sx
/-- how many bytes a part of so many has -/
def cnt (n : Nat) : Nat := (n + 2) / 3
/-- n bytes at x, of the rows that stand at a, b, c -/
def row (a b c : Nat) (R S T : List Nat) (n x : Nat) : List Nat := (List.range n).map fun i => atk [a, b, c] [nth R i, nth S i, nth T i] x 3
theorem row_length (a b c : Nat) (R S T : List Nat) (n x : Nat) : (row a b c R S T n x).length = n := by simp [row]
theorem row_nth (a b c : Nat) (R S T : List Nat) {n i : Nat} (x : Nat) (h : i < n) : nth (row a b c R S T n x) i = atk [a, b, c] [nth R i, nth S i, nth T i] x 3 := by
  rw [nth_eq]; simp [row, h]
theorem row_bytes {R S T : List Nat} (hR : Bytes R) (hS : Bytes S) (hT : Bytes T) (a b c n x : Nat) : Bytes (row a b c R S T n x) := fun y hy => by
  simp only [row, List.mem_map, List.mem_range] at hy
  obtain ⟨i, _, rfl⟩ := hy
  exact atk_lt (three_bytes (hR.at_ i) (hS.at_ i) (hT.at_ i)) x 3
/-- the k-th row of a text -/
def cut (L : List Nat) (k : Nat) : List Nat := (List.range (cnt L.length)).map fun i => nth L (k * cnt L.length + i)
theorem cut_length (L : List Nat) (k : Nat) : (cut L k).length = cnt L.length := by simp [cut]
theorem cut_nth (L : List Nat) (k : Nat) {i : Nat} (h : i < cnt L.length) : nth (cut L k) i = nth L (k * cnt L.length + i) := by rw [nth_eq]; simp [cut, h]
theorem cut_bytes {L : List Nat} (h : Bytes L) (k : Nat) : Bytes (cut L k) := fun y hy => by
  simp only [cut, List.mem_map, List.mem_range] at hy
  obtain ⟨i, _, rfl⟩ := hy
  exact h.at_ _
/-- a text's part at x -/
def part (L : List Nat) (x : Nat) : List Nat := row 1 2 3 (cut L 0) (cut L 1) (cut L 2) (cnt L.length) x
theorem part_length (L : List Nat) (x : Nat) : (part L x).length = cnt L.length := row_length ..
theorem part_bytes {L : List Nat} (h : Bytes L) (x : Nat) : Bytes (part L x) := row_bytes (cut_bytes h _) (cut_bytes h _) (cut_bytes h _) _ _ _ _ _
theorem part_nth (L : List Nat) {i : Nat} (x : Nat) (h : i < cnt L.length) :
    nth (part L x) i = atk [1, 2, 3] [nth L i, nth L (cnt L.length + i), nth L (2 * cnt L.length + i)] x 3 := by
  rw [part, row_nth _ _ _ _ _ _ _ h, cut_nth _ _ h, cut_nth _ _ h, cut_nth _ _ h, Nat.zero_mul, Nat.zero_add, Nat.one_mul]
/-- what three rows tell -/
def told (a b c : Nat) (R S T : List Nat) (n size : Nat) : List Nat := (row a b c R S T n 1 ++ row a b c R S T n 2 ++ row a b c R S T n 3).take size
theorem range_map_add (f : Nat → Nat) (a : Nat) : ∀ b, (List.range (a + b)).map f = (List.range a).map f ++ (List.range b).map fun i => f (a + i)
  | 0 => by simp
  | b + 1 => by rw [← Nat.add_assoc, List.range_succ, List.range_succ, List.map_append, List.map_append, range_map_add f a b, List.append_assoc]; rfl
theorem take_nth (L : List Nat) (m : Nat) (h : L.length ≤ m) : ((List.range m).map fun i => nth L i).take L.length = L := by
  apply List.ext_getElem?
  intro i
  by_cases hi : i < L.length
  · rw [List.getElem?_take_of_lt hi, List.getElem?_map, List.getElem?_range (by omega), Option.map_some, nth_eq, List.getElem?_eq_getElem hi]; rfl
  · rw [List.getElem?_eq_none (by rw [List.length_take]; omega), List.getElem?_eq_none (by omega)]
theorem cnt_three (n : Nat) : n ≤ cnt n + cnt n + cnt n := by unfold cnt; omega
theorem row_map {a b c : Nat} {R S T : List Nat} {n x : Nat} {f : Nat → Nat} (h : ∀ i, i < n → atk [a, b, c] [nth R i, nth S i, nth T i] x 3 = f i) : row a b c R S T n x = (List.range n).map f :=
  List.map_congr_left fun i hi => h i (by simpa using hi)
/-- any three parts, in any order, tell the text -/
theorem three {L : List Nat} (hL : Bytes L) {a b c : Nat} (ha : a < 256) (hb : b < 256) (hc : c < 256) (h12 : a ≠ b) (h13 : a ≠ c) (h23 : b ≠ c) :
    told a b c (part L a) (part L b) (part L c) (cnt L.length) L.length = L := by
  have key : ∀ k, k < 3 → row a b c (part L a) (part L b) (part L c) (cnt L.length) (k + 1) = (List.range (cnt L.length)).map fun i => nth L (k * cnt L.length + i) := fun k hk => by
    refine row_map fun i hi => ?_
    rw [part_nth _ _ hi, part_nth _ _ hi, part_nth _ _ hi]
    obtain ⟨c0, c1, c2, k0, k1, k2, hev, e1, e2, e3⟩ := poly3 (x1 := 1) (x2 := 2) (x3 := 3) (by omega) (by omega) (by omega) (hL.at_ i) (hL.at_ (cnt L.length + i)) (hL.at_ (2 * cnt L.length + i)) (by omega) (by omega) (by omega)
    rw [hev _ ha, hev _ hb, hev _ hc, through3 ha hb hc k0 k1 k2 h12 h13 h23 _ (by omega)]
    match k, hk with
    | 0, _ => simp only [Nat.zero_mul, Nat.zero_add]; exact e1
    | 1, _ => rw [Nat.one_mul]; exact e2
    | 2, _ => exact e3
  unfold told
  rw [key 0 (by omega), key 1 (by omega), key 2 (by omega)]
  have e : (List.range (cnt L.length)).map (fun i => nth L (0 * cnt L.length + i)) ++ (List.range (cnt L.length)).map (fun i => nth L (1 * cnt L.length + i)) ++ (List.range (cnt L.length)).map (fun i => nth L (2 * cnt L.length + i))
      = (List.range (cnt L.length + cnt L.length + cnt L.length)).map fun i => nth L i := by
    rw [range_map_add, range_map_add]
    simp only [Nat.zero_mul, Nat.zero_add, Nat.one_mul, Nat.two_mul]
  rw [e]
  exact take_nth L _ (cnt_three _)
/-- a value through three points is linear in them -/
theorem atk_xor {a b c x u v w u' v' w' : Nat} : atk [a, b, c] [u ^^^ u', v ^^^ v', w ^^^ w'] x 3 = atk [a, b, c] [u, v, w] x 3 ^^^ atk [a, b, c] [u', v', w'] x 3 := by
  have g : ∀ u v w, atk [a, b, c] [u, v, w] x 3 = mul u (wt [a, b, c] 0 x) ^^^ mul v (wt [a, b, c] 1 x) ^^^ mul w (wt [a, b, c] 2 x) := fun u v w => by simp [atk, nth_eq]
  rw [g, g, g, mul_add_left, mul_add_left, mul_add_left]
  ac_rfl
theorem part_xor {A B C : List Nat} (h1 : A.length = C.length) (h2 : B.length = C.length) (h : ∀ j, nth C j = nth A j ^^^ nth B j) (x : Nat) {i : Nat} (hi : i < cnt C.length) :
    nth (part C x) i = nth (part A x) i ^^^ nth (part B x) i := by
  rw [part_nth _ _ hi, part_nth _ _ (by rw [h1]; exact hi), part_nth _ _ (by rw [h2]; exact hi), h1, h2, h, h, h, atk_xor]
/-- with a byte of one part another one, three tell another text -/
theorem bent {L : List Nat} (hL : Bytes L) {a b c : Nat} (ha : a < 256) (hb : b < 256) (hc : c < 256) (h12 : a ≠ b) (h13 : a ≠ c) (h23 : b ≠ c) (hlen : L.length = 3 * cnt L.length)
    {B : List Nat} (hB : Bytes B) {i : Nat} (hi : i < cnt L.length) (hne : nth B i ≠ nth (part L b) i) :
    told a b c (part L a) B (part L c) (cnt L.length) L.length ≠ L := fun e => by
  have hn : ∀ k, k < 3 → atk [a, b, c] [nth (part L a) i, nth B i, nth (part L c) i] (k + 1) 3 = nth L (k * cnt L.length + i) := fun k hk => by
    have hl : k * cnt L.length + i < L.length := by
      match k, hk with
      | 0, _ => omega
      | 1, _ => omega
      | 2, _ => omega
    have h := congrArg (fun l => nth l (k * cnt L.length + i)) e
    simp only [nth_eq (told _ _ _ _ _ _ _ _)] at h
    rw [told, List.getElem?_take_of_lt hl] at h
    rw [← h]
    match k, hk with
    | 0, _ =>
      rw [List.append_assoc, List.getElem?_append_left (by rw [row_length]; omega), show 0 * cnt L.length + i = i from by omega, ← nth_eq, row_nth _ _ _ _ _ _ _ hi]
    | 1, _ =>
      rw [List.getElem?_append_left (by rw [List.length_append, row_length, row_length]; omega), List.getElem?_append_right (by rw [row_length]; omega), row_length, show 1 * cnt L.length + i - cnt L.length = i from by omega, ← nth_eq, row_nth _ _ _ _ _ _ _ hi]
    | 2, _ =>
      rw [List.getElem?_append_right (by rw [List.length_append, row_length, row_length]; omega), List.length_append, row_length, row_length, show 2 * cnt L.length + i - (cnt L.length + cnt L.length) = i from by omega, ← nth_eq, row_nth _ _ _ _ _ _ _ hi]
  have pa := part_bytes hL a
  have pc := part_bytes hL c
  obtain ⟨c0, c1, c2, k0, k1, k2, hev, e1, e2, e3⟩ := poly3 ha hb hc (pa.at_ i) (hB.at_ i) (pc.at_ i) h12 h13 h23
  have g1 := hn 0 (by omega)
  have g2 := hn 1 (by omega)
  have g3 := hn 2 (by omega)
  rw [hev _ (by omega)] at g1 g2 g3
  rw [show 0 * cnt L.length + i = i from by omega] at g1
  rw [Nat.one_mul] at g2
  apply hne
  rw [part_nth _ _ hi, ← g1, ← g2, ← g3]
  rw [through3 (by omega) (by omega) (by omega) k0 k1 k2 (by omega) (by omega) (by omega) _ hb]
  exact e2.symm
end Pa
end Go.Proofs.Ytgfnpemonpebpaa
