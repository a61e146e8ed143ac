/-
  What three parts tell, joined; a text as bytes of its own, one of them another one.
-/
import Derived.Test.YtgfnpemonpebpaaJn
import Derived.Laws.IdiomStrings
namespace Go.Proofs.Ytgfnpemonpebpaa
open Go.RowKit
set_option linter.unusedVariables false
set_option linter.unusedSimpArgs false
theorem join_three {a b c : Nat} {R S T : ByteArray} {z n : Nat} (hz : z ≤ 65536) (hn : n = Pa.cnt z) (a1 : 1 ≤ a) (a5 : a ≤ 5) (b1 : 1 ≤ b) (b5 : b ≤ 5) (c1 : 1 ≤ c) (c5 : c ≤ 5) (h12 : a ≠ b) (h13 : a ≠ c) (h23 : b ≠ c)
    (hR : R.size = n) (hS : S.size = n) (hT : T.size = n) (t : List (Int × ByteArray)) :
    joined (((a : Int), R) :: ((b : Int), S) :: ((c : Int), T) :: t) (z : Int) = (bs (Pa.told a b c (toN R) (toN S) (toN T) n z), 0) := by
  have m1 : ¬ (met [((a : Int), R)] (b : Int) = true) := by rw [met_iff]; simp; omega
  have m2 : ¬ (met [((a : Int), R), ((b : Int), S)] (c : Int) = true) := by rw [met_iff]; simp; omega
  have hp : pick n [] (((a : Int), R) :: ((b : Int), S) :: ((c : Int), T) :: t) = ([((a : Int), R), ((b : Int), S), ((c : Int), T)], 0) := by
    rw [pick, if_neg (by simp), if_neg (by simp; omega), if_neg (by simp [met]), if_neg (by simpa using hR), List.nil_append]
    rw [pick, if_neg (by simp), if_neg (by simp; omega), if_neg m1, if_neg (by simpa using hS), List.cons_append, List.nil_append]
    rw [pick, if_neg (by simp), if_neg (by simp; omega), if_neg m2, if_neg (by simpa using hT), List.cons_append, List.cons_append, List.nil_append]
    cases t with
    | nil => rfl
    | cons p t => rw [pick, if_pos (by rfl)]
  unfold joined
  rw [if_neg (by omega), Int.toNat_natCast, ← hn, hp]
  simp [toldA, num, txt]
theorem told_bytes {a b c : Nat} {R S T : List Nat} (hR : Gf.Bytes R) (hS : Gf.Bytes S) (hT : Gf.Bytes T) (n z : Nat) : Gf.Bytes (Pa.told a b c R S T n z) := fun x hx => by
  have h := List.mem_of_mem_take hx
  rcases List.mem_append.1 h with h | h
  · rcases List.mem_append.1 h with h | h
    · exact Pa.row_bytes hR hS hT _ _ _ _ _ x h
    · exact Pa.row_bytes hR hS hT _ _ _ _ _ x h
  · exact Pa.row_bytes hR hS hT _ _ _ _ _ x h
/-- three parts, joined, are the text -/
theorem join_parts {D : ByteArray} {n : Nat} (hD : D.size ≤ 65536) (hn : n = Pa.cnt D.size) {a b c : Nat} (a1 : 1 ≤ a) (a5 : a ≤ 5) (b1 : 1 ≤ b) (b5 : b ≤ 5) (c1 : 1 ≤ c) (c5 : c ≤ 5) (h12 : a ≠ b) (h13 : a ≠ c) (h23 : b ≠ c) (t : List (Int × ByteArray)) :
    joined (((a : Int), bs (Pa.part (toN D) a)) :: ((b : Int), bs (Pa.part (toN D) b)) :: ((c : Int), bs (Pa.part (toN D) c)) :: t) (D.size : Int) = (D, 0) := by
  have hs : ∀ x, (bs (Pa.part (toN D) x)).size = n := fun x => by rw [bs_size, Pa.part_length, toN_length, hn]
  have bL := toN_bytes D
  have ht : ∀ x, toN (bs (Pa.part (toN D) x)) = Pa.part (toN D) x := fun x => toN_bs (Pa.part_bytes bL x)
  rw [join_three hD hn a1 a5 b1 b5 c1 c5 h12 h13 h23 (hs _) (hs _) (hs _), ht, ht, ht]
  have h3 := Pa.three bL (a := a) (b := b) (c := c) (by omega) (by omega) (by omega) h12 h13 h23
  rw [toN_length, ← hn] at h3
  rw [h3, bs_toN]
/-- .. with a byte of one of them another one they are another text -/
theorem join_bent {D : ByteArray} {n : Nat} (hD : D.size ≤ 65536) (hn : n = Pa.cnt D.size) (h3n : D.size = 3 * n) {a b c : Nat} (a1 : 1 ≤ a) (a5 : a ≤ 5) (b1 : 1 ≤ b) (b5 : b ≤ 5) (c1 : 1 ≤ c) (c5 : c ≤ 5) (h12 : a ≠ b) (h13 : a ≠ c) (h23 : b ≠ c)
    {B : List Nat} (bB : Gf.Bytes B) (lB : B.length = n) {i : Nat} (hi : i < n) (hne : Gf.nth B i ≠ Gf.nth (Pa.part (toN D) b) i) :
    ∃ X, joined [((a : Int), bs (Pa.part (toN D) a)), ((b : Int), bs B), ((c : Int), bs (Pa.part (toN D) c))] (D.size : Int) = (X, 0) ∧ X ≠ D := by
  have hs : ∀ x, (bs (Pa.part (toN D) x)).size = n := fun x => by rw [bs_size, Pa.part_length, toN_length, hn]
  have bL := toN_bytes D
  have ht : ∀ x, toN (bs (Pa.part (toN D) x)) = Pa.part (toN D) x := fun x => toN_bs (Pa.part_bytes bL x)
  refine ⟨_, join_three hD hn a1 a5 b1 b5 c1 c5 h12 h13 h23 (hs _) (by rw [bs_size, lB]) (hs _) [], fun e => ?_⟩
  rw [ht, ht, toN_bs bB] at e
  have e2 := congrArg toN e
  rw [toN_bs (told_bytes (Pa.part_bytes bL a) bB (Pa.part_bytes bL c) _ _)] at e2
  have hb := Pa.bent bL (a := a) (b := b) (c := c) (by omega) (by omega) (by omega) h12 h13 h23 (by rw [toN_length, ← hn, h3n]) bB (i := i) (by rw [toN_length, ← hn]; exact hi) hne
  rw [toN_length, ← hn] at hb
  exact hb e2
theorem Rg.setb {w : World} {b : Nat} {l : List Nat} (h : Rg w b 0 l) (i x : Nat) (hi : i < l.length) : Rg (w.setCell ⟨b, i, none⟩ (.int .u8 (x : Int))) b 0 (l.set i x) := fun j v hj => by
  rw [Nat.zero_add]
  have hjl : j < l.length := by
    have := (List.getElem?_eq_some_iff.1 hj).1
    rw [vl_length, List.length_set] at this; exact this
  have hv : v = .int .u8 (Gf.nth (l.set i x) j : Nat) := by
    rw [vl_get (by rw [List.length_set]; exact hjl)] at hj
    exact (Option.some.inj hj).symm
  rw [hv]
  by_cases hij : i = j
  · subst hij
    have hc := h.cell hi
    rw [Nat.zero_add] at hc
    rw [World.cell?_setCell_same' _ _ _ (by rw [hc]; rfl), Gf.nth_eq, List.getElem?_set_self hi]; rfl
  · have hc := h.cell hjl
    rw [Nat.zero_add] at hc
    have e : (w.setCell ⟨b, i, none⟩ (.int .u8 (x : Int))).cell? ⟨b, j, none⟩ = w.cell? ⟨b, j, none⟩ := World.cell?_setCell_other w _ _ _ (fun e => hij (by injection e))
    rw [e, hc, Gf.nth_eq, Gf.nth_eq, List.getElem?_set_ne hij]
theorem conv_str (s : ByteArray) (w : World) : ∃ cap w', (convert 9 36 (.string s)).run Try.prog w = .ok (.slice (some ⟨w.heap.size, 0, none⟩) s.size cap) w' ∧ Rg w' w.heap.size 0 (toN s) ∧ (∀ i, i < s.size → w'.frozen? ⟨w.heap.size, i, none⟩ = false) ∧ Below w.heap.size w w' := by
  have hcv := run_bytes_of_string (P := Try.prog) w 9 36 5 s Try.underlying9 Try.underlying36 Try.underlying5
  refine ⟨_, _, hcv, ?_, ?_, ((Below.refl _ w).drew).alloc (Nat.le_refl _) _⟩
  · intro j v hj
    have hjl : j < s.size := by
      have := (List.getElem?_eq_some_iff.1 hj).1
      rw [vl_length, toN_length] at this; exact this
    rw [vl_get (by rw [toN_length]; exact hjl), toN_nth s j hjl] at hj
    rw [← Option.some.inj hj, Nat.zero_add]
    show (w.drew.alloc _).cell? ⟨w.drew.heap.size, j, none⟩ = _
    simp only [World.cell?, World.alloc_heap_new]
    exact bytesRow_at s _ j hjl
  · intro i hi
    show (w.drew.alloc _).frozen? ⟨w.drew.heap.size, i, none⟩ = _
    simp only [World.frozen?, World.alloc_heap_new]
    have : s.size ≤ (bytesRow s (grownCap w s.size 0 5)).size := by
      rw [bytesRow, Array.size_append, Array.size_map]
      show s.data.size ≤ _
      omega
    simp
    omega
theorem pl_new3 (w : World) (x y z : Int × ByteArray) : Pl (w.alloc (.cells #[.int .i64 x.1, .string x.2, .int .i64 y.1, .string y.2, .int .i64 z.1, .string z.2] 29)) w.heap.size 0 [x, y, z] := fun i u hu => by
  have o := Own.new w 29 #[.int .i64 x.1, .string x.2, .int .i64 y.1, .string y.2, .int .i64 z.1, .string z.2]
  match i, hu with
  | 0, hu => simp at hu; subst hu; exact ⟨o.cell 0, o.cell 1⟩
  | 1, hu => simp at hu; subst hu; exact ⟨o.cell 2, o.cell 3⟩
  | 2, hu => simp at hu; subst hu; exact ⟨o.cell 4, o.cell 5⟩
  | i + 3, hu => simp at hu
theorem Pl.drew {w : World} {b o : Nat} {l : List (Int × ByteArray)} (h : Pl w b o l) : Pl w.drew b o l := h
theorem beq_no {X D : ByteArray} (h : X ≠ D) : (X == D) = false := by
  cases e : (X == D) with
  | false => rfl
  | true => exact absurd (ByteArray.ext (eq_of_beq (show (X.data == D.data) = true from e))) h
theorem beq_yes (D : ByteArray) : (D == D) = true := (beq_self_eq_true D.data : (D.data == D.data) = true)
end Go.Proofs.Ytgfnpemonpebpaa
