/-
  How a row of parts that comes in is opened.
-/
import Derived.Test.YtgfnpemonpebpaaOk
import Derived.Test.YtgfnpemonpebpaaRq
import Derived.Deep.Slices
import Derived.Deep.Fields
import Derived.ChangeSame
namespace Go.Proofs.Ytgfnpemonpebpaa
open Go.ChangeShapes Go.WideShapes Go.ChangeAt Go.RowKit Go.Deep
set_option linter.unusedVariables false
set_option linter.unusedSimpArgs false
theorem trod3 {H : Type} {enc : TypeId × Value → H} {w : World} {base : Nat} {sp : Nat → Bool} {held : Bool} {fuel : Nat} {v : Value} {x : DataW H × List MemPlace} (h : DataW.trod enc Try.prog w base sp held fuel 3 [v] = some x) : ∃ n : Int, v = .int .i64 n := by
  cases fuel with
  | zero => simp [DataW.trod] at h
  | succ fuel =>
    unfold DataW.trod at h
    simp only [Try.underlying3] at h
    cases v <;> simp at h
    rename_i k n
    obtain ⟨⟨rfl, hw⟩, _⟩ := h
    exact ⟨n, rfl⟩
theorem trod9 {H : Type} {enc : TypeId × Value → H} {w : World} {base : Nat} {sp : Nat → Bool} {held : Bool} {fuel : Nat} {v : Value} {x : DataW H × List MemPlace} (h : DataW.trod enc Try.prog w base sp held fuel 9 [v] = some x) : ∃ s, v = .string s := by
  cases fuel with
  | zero => simp [DataW.trod] at h
  | succ fuel =>
    unfold DataW.trod at h
    simp only [Try.underlying9] at h
    cases v <;> simp at h
    exact ⟨_, rfl⟩
theorem cellsOf3 : Try.prog.cellsOf 3 = 1 := by kernel_rfl
theorem cellsOf9 : Try.prog.cellsOf 9 = 1 := by kernel_rfl
theorem cellsOf29 : Try.prog.cellsOf 29 = 2 := by kernel_rfl
theorem mapM_some {α β : Type} {f : α → Option β} : ∀ {l : List α} {r : List β}, l.mapM f = some r → ∀ x ∈ l, ∃ y, f x = some y
  | [], _, _, x, hx => nomatch hx
  | a :: l, r, h, x, hx => by
    rw [List.mapM_cons] at h
    cases ha : f a with
    | none => rw [ha] at h; simp at h
    | some b =>
      rw [ha] at h
      cases hl : l.mapM f with
      | none => rw [hl] at h; simp at h
      | some s =>
        rcases List.mem_cons.1 hx with rfl | hx
        · exact ⟨b, ha⟩
        · exact mapM_some hl x hx
theorem trod29 {H : Type} {enc : TypeId × Value → H} {w : World} {base : Nat} {sp : Nat → Bool} {held : Bool} {fuel : Nat} {cs : List Value} {x : DataW H × List MemPlace} (h : DataW.trod enc Try.prog w base sp held fuel 29 cs = some x) :
    ∃ (I : Int) (S : ByteArray), cs = [.int .i64 I, .string S] := by
  cases fuel with
  | zero => simp [DataW.trod] at h
  | succ fuel =>
    unfold DataW.trod at h
    simp only [Try.underlying29, cellsOf29] at h
    by_cases hl : cs.length = 2
    · rw [if_pos hl] at h
      obtain ⟨xs, hxs, _⟩ := Option.map_eq_some_iff.1 h
      obtain ⟨y0, hy0⟩ := mapM_some hxs _ (List.mem_cons_self ..)
      obtain ⟨y1, hy1⟩ := mapM_some hxs _ (List.mem_cons_of_mem _ (List.mem_cons_self ..))
      simp only [cellsOf3, cellsOf9, List.drop_zero] at hy0 hy1
      match cs, hl with
      | [c, e], _ =>
        obtain ⟨I, rfl⟩ := trod3 (v := c) hy0
        obtain ⟨S, rfl⟩ := trod9 (v := e) hy1
        exact ⟨I, S, rfl⟩
    · rw [if_neg hl] at h; cases h
theorem okParts {H : Type} {enc : TypeId × Value → H} {W : World} {base : Nat} {v : Value} {d : DataW H} {p : List MemPlace} (hv : Value.okWide Try.prog W .any base 24 v) (h : DataW.Trod enc Try.prog W 0 (fun _ => true) true 24 v d p) :
    ∃ (A : Option Addr) (cap n : Nat) (l : List (Int × ByteArray)), v = .slice A n cap ∧ (Ps W A l ∧ l.length = n) ∧ n ≤ maxLen := by
  obtain ⟨a, n, cap, rfl⟩ := okWide_slice Try.underlying24 hv
  obtain ⟨fuel, hf⟩ := h
  rcases open_slice Try.underlying24 hf with ⟨h0, _⟩ | ⟨x, len, cap', m, f2, D, Pl', hcs, hb, hl, hm, hmm, hx, hi⟩
  · simp [Value.cells] at h0
    obtain ⟨rfl, rfl, rfl⟩ := h0
    exact ⟨none, 0, 0, [], rfl, ⟨fun h => absurd h (by simp), rfl⟩, Nat.zero_le _⟩
  · simp [Value.cells] at hcs
    obtain ⟨rfl, rfl, rfl⟩ := hcs
    simp only [if_true] at hmm
    subst hmm
    obtain ⟨b, off, spot⟩ := x
    have raw : ∀ i, i < n → ∃ y : Int × ByteArray, W.cell? (((⟨b, off, spot⟩ : Addr).add (i * 2)).add 0) = some (.int .i64 y.1) ∧ W.cell? (((⟨b, off, spot⟩ : Addr).add (i * 2)).add 1) = some (.string y.2) := fun i hin => by
      obtain ⟨cs', hc, ht⟩ := hi i (by omega)
      rw [cellsOf29] at hc
      obtain ⟨_, hcl, hat⟩ := World.cells?_some hc
      obtain ⟨I, S, rfl⟩ := trod29 ht
      exact ⟨(I, S), hat 0 (by omega), hat 1 (by omega)⟩
    have pick : ∀ k, k ≤ n → ∃ l : List (Int × ByteArray), l.length = k ∧ ∀ i y, l[i]? = some y → W.cell? (((⟨b, off, spot⟩ : Addr).add (i * 2)).add 0) = some (.int .i64 y.1) ∧ W.cell? (((⟨b, off, spot⟩ : Addr).add (i * 2)).add 1) = some (.string y.2) := by
      intro k
      induction k with
      | zero => exact fun _ => ⟨[], rfl, fun i y h => by simp at h⟩
      | succ k ih =>
        intro hk
        obtain ⟨l, hl, hp⟩ := ih (by omega)
        obtain ⟨y, hy⟩ := raw k (by omega)
        refine ⟨l ++ [y], by simp [hl], fun i z hz => ?_⟩
        by_cases hik : i < l.length
        · rw [List.getElem?_append_left hik] at hz
          exact hp i z hz
        · rw [List.getElem?_append_right (by omega)] at hz
          have : i - l.length = 0 := by
            have := (List.getElem?_eq_some_iff.1 hz).1
            simp at this; omega
          rw [this] at hz
          simp at hz
          subst hz
          rw [show i = k from by omega]
          exact hy
    obtain ⟨l, hll, hp⟩ := pick n (Nat.le_refl n)
    refine ⟨_, _, n, l, rfl, ⟨fun hpos => ?_, hll⟩, by omega⟩
    have hsp : spot = none := by
      obtain ⟨y, hy, _⟩ := raw 0 (by omega)
      simpa [Addr.add] using World.cell?_spot hy
    subst hsp
    refine ⟨b, off, rfl, fun i y hy => ?_⟩
    obtain ⟨h1, h2⟩ := hp i y hy
    rw [Addr.add_mid, Addr.add_mid] at h1 h2
    rw [Nat.add_zero] at h1
    exact ⟨h1, h2⟩
end Go.Proofs.Ytgfnpemonpebpaa
