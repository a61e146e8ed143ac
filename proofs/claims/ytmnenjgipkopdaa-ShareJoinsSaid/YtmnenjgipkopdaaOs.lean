/-
  How a row of shares that comes in is opened.
-/
import Derived.Test.YtmnenjgipkopdaaOk
import Derived.Deep.Slices
import Derived.Deep.Fields
import Derived.ChangeSame
namespace Go.Proofs.Ytmnenjgipkopdaa
open Go.ChangeShapes Go.WideShapes Go.ChangeAt Go.RowKit Go.Deep
set_option linter.unusedVariables false
set_option linter.unusedSimpArgs false
theorem trod5 {H : Type} {enc : TypeId × Value → H} {w : World} {base : Nat} {sp : Nat → Bool} {held : Bool} {fuel : Nat} {v : Value} {x : DataW H × List MemPlace} (h : DataW.trod enc Try.prog w base sp held fuel 5 [v] = some x) : ∃ m : Nat, v = .int .u8 (m : Int) ∧ m < 256 := by
  cases fuel with
  | zero => simp [DataW.trod] at h
  | succ fuel =>
    unfold DataW.trod at h
    simp only [Try.underlying5] at h
    cases v <;> simp at h
    rename_i k n
    obtain ⟨⟨rfl, hw⟩, _⟩ := h
    simp [Lit.wf, IntKind.min, IntKind.max, IntKind.signed, IntKind.bits] at hw
    obtain ⟨m, rfl⟩ := Int.eq_ofNat_of_zero_le hw.1
    exact ⟨m, rfl, by omega⟩
theorem cellsOf5 : Try.prog.cellsOf 5 = 1 := by kernel_rfl
theorem cellsOf23 : Try.prog.cellsOf 23 = 32 := by kernel_rfl
theorem cellsOf34 : Try.prog.cellsOf 34 = 33 := by kernel_rfl
theorem mapM_some {α β : Type} {f : α → Option β} : ∀ {l : List α} {r : List β}, l.mapM f = some r → ∀ x ∈ l, ∃ y, f x = some y
  | [], _, _, x, hx => nomatch hx
  | a :: l, r, h, x, hx => by
    rw [List.mapM_cons] at h
    cases ha : f a with
    | none => rw [ha] at h; simp at h
    | some b =>
      rw [ha] at h
      cases hl : l.mapM f with
      | none => rw [hl] at h; simp at h
      | some s =>
        rcases List.mem_cons.1 hx with rfl | hx
        · exact ⟨b, ha⟩
        · exact mapM_some hl x hx
theorem trod23 {H : Type} {enc : TypeId × Value → H} {w : World} {base : Nat} {sp : Nat → Bool} {held : Bool} {fuel : Nat} {cs : List Value} {x : DataW H × List MemPlace} (h : DataW.trod enc Try.prog w base sp held fuel 23 cs = some x) :
    cs.length = 32 ∧ ∀ v ∈ cs, ∃ m : Nat, v = .int .u8 (m : Int) ∧ m < 256 := by
  cases fuel with
  | zero => simp [DataW.trod] at h
  | succ fuel =>
    unfold DataW.trod at h
    simp only [Try.underlying23, cellsOf23, cellsOf5, Nat.mul_one] at h
    by_cases hl : cs.length = 32
    · rw [if_pos hl] at h
      refine ⟨hl, fun v hv => ?_⟩
      obtain ⟨xs, hxs, _⟩ := Option.map_eq_some_iff.1 h
      obtain ⟨i, hi, rfl⟩ := List.getElem_of_mem hv
      obtain ⟨y, hy⟩ := mapM_some hxs i (by simp; omega)
      have e : (cs.drop i).take 1 = [cs[i]] := by rw [List.drop_eq_getElem_cons hi]; rfl
      rw [e] at hy
      exact trod5 hy
    · rw [if_neg hl] at h; cases h
theorem trod34 {H : Type} {enc : TypeId × Value → H} {w : World} {base : Nat} {sp : Nat → Bool} {held : Bool} {fuel : Nat} {cs : List Value} {x : DataW H × List MemPlace} (h : DataW.trod enc Try.prog w base sp held fuel 34 cs = some x) :
    cs.length = 33 ∧ ∀ v ∈ cs, ∃ m : Nat, v = .int .u8 (m : Int) ∧ m < 256 := by
  cases fuel with
  | zero => simp [DataW.trod] at h
  | succ fuel =>
    unfold DataW.trod at h
    simp only [Try.underlying34, cellsOf34] at h
    by_cases hl : cs.length = 33
    · rw [if_pos hl] at h
      refine ⟨hl, fun v hv => ?_⟩
      obtain ⟨xs, hxs, _⟩ := Option.map_eq_some_iff.1 h
      obtain ⟨y0, hy0⟩ := mapM_some hxs _ (List.mem_cons_self ..)
      obtain ⟨y1, hy1⟩ := mapM_some hxs _ (List.mem_cons_of_mem _ (List.mem_cons_self ..))
      simp only [cellsOf5, cellsOf23, List.drop_zero] at hy0 hy1
      match cs, hl with
      | c :: cs, hl =>
        rw [show (c :: cs).take 1 = [c] from rfl] at hy0
        rw [show (c :: cs).drop 1 = cs from rfl, List.take_of_length_le (by simp at hl; omega)] at hy1
        rcases List.mem_cons.1 hv with rfl | hv
        · exact trod5 hy0
        · exact (trod23 hy1).2 v hv
    · rw [if_neg hl] at h; cases h
theorem pick_list {P : Nat → List Nat → Prop} : ∀ n, (∀ i, i < n → ∃ s, P i s) → ∃ l : List (List Nat), l.length = n ∧ ∀ i, i < n → P i (nthL l i)
  | 0, _ => ⟨[], rfl, fun i hi => absurd hi (by omega)⟩
  | n + 1, h => by
    obtain ⟨l, hl, hp⟩ := pick_list n fun i hi => h i (by omega)
    obtain ⟨s, hs⟩ := h n (by omega)
    refine ⟨l ++ [s], by simp [hl], fun i hi => ?_⟩
    by_cases hn : i < n
    · have e : nthL (l ++ [s]) i = nthL l i := by simp [nthL, List.getElem?_append, hl, hn]
      rw [e]; exact hp i hn
    · obtain rfl : i = n := by omega
      have e : nthL (l ++ [s]) i = s := by simp [nthL, List.getElem?_append, hl]
      rw [e]; exact hs
theorem rg_append {w : World} {b o : Nat} {l m : List Nat} (h : Rg w b o l) (h2 : Rg w b (o + l.length) m) : Rg w b o (l ++ m) := fun j v hj => by
  rw [vl_append] at hj
  by_cases hlt : j < (vl l).length
  · rw [List.getElem?_append_left hlt] at hj
    exact h j v hj
  · rw [List.getElem?_append_right (by omega)] at hj
    have := h2 (j - (vl l).length) v hj
    rw [vl_length, Nat.add_assoc] at this
    rw [vl_length] at hlt
    rw [show l.length + (j - l.length) = j from by omega] at this
    exact this
theorem rg_flat {w : World} {b : Nat} : ∀ (l : List (List Nat)) (o : Nat), (∀ s ∈ l, s.length = 33) → (∀ i, i < l.length → Rg w b (o + i * 33) (nthL l i)) → Rg w b o l.flatten
  | [], _, _, _ => fun j v hj => by simp [vl] at hj
  | s :: l, o, h33, h => by
    rw [List.flatten_cons]
    have h0 := h 0 (by simp)
    rw [Nat.zero_mul, Nat.add_zero] at h0
    refine rg_append h0 ?_
    rw [h33 s (by simp)]
    refine rg_flat l (o + 33) (fun x hx => h33 x (by simp [hx])) fun i hi => ?_
    have := h (i + 1) (by simp; omega)
    rw [show o + (i + 1) * 33 = o + 33 + i * 33 from by omega] at this
    exact this
theorem okShares {H : Type} {enc : TypeId × Value → H} {W : World} {base : Nat} {v : Value} {d : DataW H} {p : List MemPlace} (hv : Value.okWide Try.prog W .any base 25 v) (h : DataW.Trod enc Try.prog W 0 (fun _ => true) true 25 v d p) :
    ∃ (A : Option Addr) (cap n : Nat) (l : List (List Nat)), v = .slice A n cap ∧ Ss W A n l ∧ n ≤ maxLen := by
  obtain ⟨a, n, cap, rfl⟩ := okWide_slice Try.underlying25 hv
  obtain ⟨fuel, hf⟩ := h
  rcases open_slice Try.underlying25 hf with ⟨h0, _⟩ | ⟨x, len, cap', m, f2, D, Pl, hcs, hb, hl, hm, hmm, hx, hi⟩
  · simp [Value.cells] at h0
    obtain ⟨rfl, rfl, rfl⟩ := h0
    exact ⟨none, 0, 0, [], rfl, ⟨rfl, (fun s hs => nomatch hs), fun h => absurd h (by omega)⟩, Nat.zero_le _⟩
  · simp [Value.cells] at hcs
    obtain ⟨rfl, rfl, rfl⟩ := hcs
    simp only [if_true] at hmm
    subst hmm
    obtain ⟨b, off, spot⟩ := x
    have raw : ∀ i, i < n → ∃ s : List Nat, s.length = 33 ∧ Gf.Bytes s ∧ ∀ j, j < 33 → W.cell? (((⟨b, off, spot⟩ : Addr).add (i * 33)).add j) = (vl s)[j]? := fun i hin => by
      obtain ⟨cs', hc, ht⟩ := hi i (by omega)
      rw [cellsOf34] at hc
      obtain ⟨_, hcl, hat⟩ := World.cells?_some hc
      obtain ⟨_, hby⟩ := trod34 ht
      obtain ⟨K, h1, h2, h3⟩ := bytes_of cs'.toArray fun i v hv => hby v (by
        rw [List.getElem?_toArray] at hv
        exact List.mem_of_getElem? hv)
      have hK : K.length = 33 := by rw [h2]; simpa using hcl
      have hvl : cs' = vl K := by
        have := congrArg Array.toList h1
        simpa [vs] using this
      exact ⟨K, hK, h3, fun j hj => by rw [hat j (by omega), hvl]⟩
    by_cases hn : n = 0
    · subst hn
      exact ⟨_, _, 0, [], rfl, ⟨rfl, (fun s hs => nomatch hs), fun h => absurd h (by omega)⟩, Nat.zero_le _⟩
    · have hsp : spot = none := by
        obtain ⟨K, hK, _, h0⟩ := raw 0 (by omega)
        have h0 := h0 0 (by omega)
        rw [vl_get (by omega)] at h0
        simpa [Addr.add] using World.cell?_spot h0
      subst hsp
      obtain ⟨l, hll, hp⟩ := pick_list (P := fun i s => s.length = 33 ∧ Gf.Bytes s ∧ Rg W b (off + i * 33) s) n fun i hin => by
        obtain ⟨K, hK, hb3, h0⟩ := raw i hin
        refine ⟨K, hK, hb3, fun j v hj => ?_⟩
        have hjl : j < 33 := by
          have := (List.getElem?_eq_some_iff.1 hj).1
          rw [vl_length] at this; omega
        have h1 := h0 j hjl
        rw [Addr.add_mid, Addr.add_mid] at h1
        rw [h1]; exact hj
      have hall : ∀ s ∈ l, s.length = 33 ∧ Gf.Bytes s := fun s hs => by
        obtain ⟨i, hi, rfl⟩ := List.getElem_of_mem hs
        have := hp i (by omega)
        have e : nthL l i = l[i] := by simp [nthL, hi]
        rw [e] at this
        exact ⟨this.1, this.2.1⟩
      exact ⟨_, _, n, l, rfl, ⟨hll, hall, fun _ => ⟨b, off, rfl, rg_flat l off (fun s hs => (hall s hs).1) fun i hi => (hp i (by omega)).2.2⟩⟩, by omega⟩
end Go.Proofs.Ytmnenjgipkopdaa
