/-
  Plain mathematics of a choice of three parts; a row of parts that comes in, and what an empty one is.
-/
import Derived.Test.YtgfnpemonpebpaaAp
import Derived.Test.YtgfnpemonpebpaaOq
namespace Go.Proofs.Ytgfnpemonpebpaa
open Go.ChangeShapes Go.WideShapes Go.ChangeAt Go.RowKit Go.Deep
set_option linter.unusedVariables false
set_option linter.unusedSimpArgs false
/-- the part of a number -/
def pr (D : ByteArray) (a : Nat) : Int × ByteArray := ((a : Int), bs (Pa.part (toN D) a))
theorem five_pr (D : ByteArray) : five (toN D) = [1, 2, 3, 4, 5].map (pr D) := rfl
theorem Pl.take {w : World} {b o : Nat} {l : List (Int × ByteArray)} (h : Pl w b o l) (j : Nat) : Pl w b o (l.take j) := fun i x hx => by
  rw [List.getElem?_take] at hx
  split at hx
  · exact h i x hx
  · cases hx
theorem Pl.drop {w : World} {b o : Nat} {l : List (Int × ByteArray)} (h : Pl w b o l) (j : Nat) : Pl w b (o + j * 2) (l.drop j) := fun i x hx => by
  rw [List.getElem?_drop] at hx
  obtain ⟨h1, h2⟩ := h _ _ hx
  have e : o + (j + i) * 2 = o + j * 2 + i * 2 := by omega
  rw [e] at h1 h2
  exact ⟨h1, h2⟩
theorem RP.drew {w : World} {B : Nat} {A : Option Addr} {n cap : Nat} {l : List (Int × ByteArray)} (h : RP w B A n cap l) : RP w.drew B A n cap l := h
/-- those that were chosen and those that are left: unlike, each a part's number -/
def Lot (ch idx : List Nat) : Prop := (ch ++ idx).Nodup ∧ ∀ x ∈ ch ++ idx, 1 ≤ x ∧ x ≤ 5
theorem Lot.start : Lot [] [1, 2, 3, 4, 5] := by unfold Lot; decide
theorem Lot.step {ch idx : List Nat} (h : Lot ch idx) {j a : Nat} (hj : idx[j]? = some a) : Lot (ch ++ [a]) (idx.take j ++ idx.drop (j + 1)) := by
  have hl : j < idx.length := (List.getElem?_eq_some_iff.1 hj).1
  have e : idx = idx.take j ++ a :: idx.drop (j + 1) := by
    have := List.take_append_drop j idx
    rw [List.drop_eq_getElem_cons hl] at this
    rw [List.getElem?_eq_getElem hl] at hj
    rw [Option.some.inj hj] at this
    exact this.symm
  have p : ((ch ++ [a]) ++ (idx.take j ++ idx.drop (j + 1))).Perm (ch ++ idx) := by
    rw [List.append_assoc]
    refine List.Perm.append_left _ ?_
    conv => rhs; rw [e]
    rw [List.singleton_append]
    exact List.perm_middle.symm
  exact ⟨p.nodup_iff.2 h.1, fun x hx => h.2 x (p.mem_iff.1 hx)⟩
theorem Lot.ends {ch idx : List Nat} (h : Lot ch idx) (h3 : ch.length = 3) : ∃ a b c, ch = [a, b, c] ∧ (1 ≤ a ∧ a ≤ 5) ∧ (1 ≤ b ∧ b ≤ 5) ∧ (1 ≤ c ∧ c ≤ 5) ∧ a ≠ b ∧ a ≠ c ∧ b ≠ c := by
  match ch, h3 with
  | [a, b, c], _ =>
    refine ⟨a, b, c, rfl, h.2 a (by simp), h.2 b (by simp), h.2 c (by simp), ?_⟩
    have := h.1
    simp at this
    exact ⟨this.1.1, this.1.2.1, this.2.1.1⟩
theorem join_two {D : ByteArray} (hD : D.size ≤ 65536) {a b : Nat} (ha : 1 ≤ a ∧ a ≤ 5) (hb : 1 ≤ b ∧ b ≤ 5) (h : a ≠ b) : joined [pr D a, pr D b] (D.size : Int) = (⟨#[]⟩, 4) := by
  have hs : ∀ x, (bs (Pa.part (toN D) x)).size = Pa.cnt D.size := fun x => by rw [bs_size, Pa.part_length, toN_length]
  have h1 : ¬ ((a : Int) < 1 ∨ 5 < (a : Int)) := by omega
  have h2 : ¬ ((b : Int) < 1 ∨ 5 < (b : Int)) := by omega
  have h3 : ¬ (a : Int) = (b : Int) := by omega
  have hp : pick (Pa.cnt ((D.size : Int)).toNat) [] [pr D a, pr D b] = ([pr D a, pr D b], 4) := by
    simp [pick, pr, hs, h1, h2, met, h3]
  unfold joined
  rw [hp]
  rw [if_neg (by omega)]
  rfl
theorem join_pr {D : ByteArray} (hD : D.size ≤ 65536) {a b c : Nat} (ha : 1 ≤ a ∧ a ≤ 5) (hb : 1 ≤ b ∧ b ≤ 5) (hc : 1 ≤ c ∧ c ≤ 5) (h12 : a ≠ b) (h13 : a ≠ c) (h23 : b ≠ c) (t : List (Int × ByteArray)) : joined ([a, b, c].map (pr D) ++ t) (D.size : Int) = (D, 0) :=
  join_parts hD rfl ha.1 ha.2 hb.1 hb.2 hc.1 hc.2 h12 h13 h23 t
theorem okParts3 {H : Type} {enc : TypeId × Value → H} {W : World} {base : Nat} {v : Value} {d : DataW H} {p : List MemPlace} (hv : Value.okWide Try.prog W .any base 24 v) (h : DataW.Trod enc Try.prog W 0 (fun _ => true) true 24 v d p) :
    ∃ (A : Option Addr) (cap n : Nat) (l : List (Int × ByteArray)), v = .slice A n cap ∧ (Ps W A l ∧ l.length = n ∧ (A = none → cap = 0)) ∧ n ≤ maxLen := by
  obtain ⟨A, cap, n, l, rfl, ⟨h1, h2⟩, h3⟩ := okParts hv h
  refine ⟨A, cap, n, l, rfl, ⟨h1, h2, fun e => ?_⟩, h3⟩
  subst e
  obtain ⟨fuel, hf⟩ := h
  rcases open_slice Try.underlying24 hf with ⟨h0, _⟩ | ⟨x, len, cap', m, f2, D, Pl', hcs, _⟩
  · simp [Value.cells] at h0
    exact h0.2
  · simp [Value.cells] at hcs
end Go.Proofs.Ytgfnpemonpebpaa
