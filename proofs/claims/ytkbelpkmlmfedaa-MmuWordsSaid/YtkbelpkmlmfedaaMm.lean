/-
  Plain mathematics of memory: pages, frames, bytes one by one and piece by piece.
-/
import Derived.Test.YtkbelpkmlmfedaaNu
import Derived.Test.YtkbelpkmlmfedaaNv
namespace Go.Proofs.Ytkbelpkmlmfedaa
namespace Mm
set_option linter.unusedVariables false
set_option linter.unusedSimpArgs false
/-- a page's entry -/
structure Pt where
  is : Bool
  wr : Bool
  f : Int
abbrev Sp := List Pt
abbrev Fr := List (List UInt8)
def pt (s : Sp) (i : Nat) : Pt := s.getD i ⟨false, false, 0⟩
def fr (F : Fr) (i : Nat) : List UInt8 := F.getD i []
/-- a sound address -/
def okAt (q : Nat) (n : Int) : Prop := (n = 1 ∨ n = 4) ∧ q < 2048 ∧ q % n.toNat = 0
instance (q : Nat) (n : Int) : Decidable (okAt q n) := by unfold okAt; infer_instance
/-- may the page be read, or written? -/
def may (p : Pt) (w : Bool) : Prop := p.is = true ∧ (w = true → p.wr = true)
instance (p : Pt) (w : Bool) : Decidable (may p w) := by unfold may; infer_instance
def find (s : Sp) (q : Nat) (n : Int) (w : Bool) : Option (Int × Nat) := if okAt q n ∧ may (pt s (q / 128)) w then some ((pt s (q / 128)).f, q % 128) else none
def there (F : Fr) (i : Int) : Prop := 0 ≤ i ∧ i < F.length ∧ (fr F i.toNat).length = 128
instance (F : Fr) (i : Int) : Decidable (there F i) := by unfold there; infer_instance
/-- where a byte lies: the frame, the place in it -/
def good (F : Fr) (s : Sp) (q : Nat) (w : Bool) : Prop := q < 2048 ∧ may (pt s (q / 128)) w ∧ there F (pt s (q / 128)).f
instance (F : Fr) (s : Sp) (q : Nat) (w : Bool) : Decidable (good F s q w) := by unfold good; infer_instance
def fn (s : Sp) (q : Nat) : Nat := (pt s (q / 128)).f.toNat
def byte (F : Fr) (s : Sp) (q : Nat) : Option UInt8 := if good F s q false then some ((fr F (fn s q)).getD (q % 128) 0) else none
def setB (F : Fr) (s : Sp) (q : Nat) (b : UInt8) : Option Fr := if good F s q true then some (F.set (fn s q) ((fr F (fn s q)).set (q % 128) b)) else none
def copyB (F : Fr) (s : Sp) : Nat → Nat → Option (List UInt8)
  | _, 0 => some []
  | q, n + 1 => (byte F s q).bind fun b => (copyB F s (q + 1) n).map fun l => b :: l
def layB (s : Sp) : Fr → Nat → List UInt8 → Option Fr
  | F, _, [] => some F
  | F, q, b :: d => (setB F s q b).bind fun G => layB s G (q + 1) d
theorem copy_nil (F : Fr) (s : Sp) (q : Nat) : copyB F s q 0 = some [] := by rw [copyB]
theorem copy_cons (F : Fr) (s : Sp) (q n : Nat) : copyB F s q (n + 1) = (byte F s q).bind fun b => (copyB F s (q + 1) n).map fun l => b :: l := by rw [copyB]
theorem lay_nil (s : Sp) (F : Fr) (q : Nat) : layB s F q [] = some F := by rw [layB]
theorem lay_cons (s : Sp) (F : Fr) (q : Nat) (b : UInt8) (d : List UInt8) : layB s F q (b :: d) = (setB F s q b).bind fun G => layB s G (q + 1) d := by rw [layB]
theorem copy_add (F : Fr) (s : Sp) : ∀ n q m, copyB F s q (n + m) = (copyB F s q n).bind fun a => (copyB F s (q + n) m).map fun b => a ++ b
  | 0, q, m => by
    rw [copy_nil, Nat.zero_add]
    cases copyB F s q m <;> simp
  | n + 1, q, m => by
    rw [show n + 1 + m = (n + m) + 1 from by omega, copy_cons, copy_cons]
    cases h : byte F s q with
    | none => rfl
    | some b =>
      simp only [Option.bind_some]
      rw [copy_add F s n (q + 1) m, show q + (n + 1) = q + 1 + n from by omega]
      cases copyB F s (q + 1) n with
      | none => rfl
      | some a => cases copyB F s (q + 1 + n) m <;> rfl
theorem lay_add (s : Sp) : ∀ (a b : List UInt8) (F : Fr) (q : Nat), layB s F q (a ++ b) = (layB s F q a).bind fun G => layB s G (q + a.length) b
  | [], b, F, q => by rw [lay_nil]; rfl
  | x :: a, b, F, q => by
    rw [List.cons_append, lay_cons, lay_cons]
    cases h : setB F s q x with
    | none => rfl
    | some G =>
      simp only [Option.bind_some]
      rw [lay_add s a b G (q + 1), List.length_cons, show q + (a.length + 1) = q + 1 + a.length from by omega]
/-- within a page -/
theorem page_at {q i : Nat} (h : q % 128 + i < 128) : (q + i) / 128 = q / 128 ∧ (q + i) % 128 = q % 128 + i := by omega
theorem good_at {F : Fr} {s : Sp} {q i : Nat} {w : Bool} (h : q % 128 + i < 128) : good F s (q + i) w ↔ good F s q w := by
  unfold good
  rw [(page_at h).1]
  constructor
  · rintro ⟨a, b⟩; exact ⟨by omega, b⟩
  · rintro ⟨a, b⟩; exact ⟨by omega, b⟩
theorem fn_at {s : Sp} {q i : Nat} (h : q % 128 + i < 128) : fn s (q + i) = fn s q := by unfold fn; rw [(page_at h).1]
theorem good_len {F : Fr} {s : Sp} {q : Nat} {w : Bool} (h : good F s q w) : (fr F (fn s q)).length = 128 := h.2.2.2.2
theorem good_lt {F : Fr} {s : Sp} {q : Nat} {w : Bool} (h : good F s q w) : fn s q < F.length := by
  have h1 := h.2.2.1
  have h2 := h.2.2.2.1
  unfold fn
  omega
theorem byte_good {F : Fr} {s : Sp} {q : Nat} (h : good F s q false) : byte F s q = some ((fr F (fn s q)).getD (q % 128) 0) := if_pos h
theorem byte_none {F : Fr} {s : Sp} {q : Nat} (h : ¬ good F s q false) : byte F s q = none := if_neg h
theorem drop_take_cons {l : List UInt8} {p n : Nat} (h : p < l.length) : (l.drop p).take (n + 1) = l.getD p 0 :: (l.drop (p + 1)).take n := by
  rw [List.drop_eq_getElem_cons h, List.take_succ_cons]
  congr 1
  simp [List.getD_eq_getElem?_getD, h]
/-- a piece of a page -/
theorem copy_page (F : Fr) (s : Sp) : ∀ n q, q % 128 + n ≤ 128 → good F s q false → copyB F s q n = some (((fr F (fn s q)).drop (q % 128)).take n)
  | 0, q, _, _ => by rw [copy_nil]; simp
  | 1, q, h, hg => by
    have hl := good_len hg
    rw [copy_cons, byte_good hg, copy_nil, drop_take_cons (by omega)]
    simp
  | n + 2, q, h, hg => by
    have hl := good_len hg
    have g1 : good F s (q + 1) false := (good_at (by omega)).2 hg
    have f1 : fn s (q + 1) = fn s q := fn_at (by omega)
    have p1 : (q + 1) % 128 = q % 128 + 1 := (page_at (by omega)).2
    rw [copy_cons, byte_good hg, copy_page F s (n + 1) (q + 1) (by omega) g1, f1, p1, drop_take_cons (n := n + 1) (by omega)]
    rfl
theorem copy_bad {F : Fr} {s : Sp} {q n : Nat} (h : ¬ good F s q false) (hn : 0 < n) : copyB F s q n = none := by
  obtain ⟨m, rfl⟩ : ∃ m, n = m + 1 := ⟨n - 1, by omega⟩
  rw [copy_cons, byte_none h]; rfl
theorem copy_len (F : Fr) (s : Sp) : ∀ n q l, copyB F s q n = some l → l.length = n
  | 0, q, l, h => by rw [copy_nil] at h; cases h; rfl
  | n + 1, q, l, h => by
    rw [copy_cons] at h
    cases hb : byte F s q with
    | none => rw [hb] at h; cases h
    | some b =>
      rw [hb] at h
      cases hc : copyB F s (q + 1) n with
      | none => rw [hc] at h; cases h
      | some k =>
        rw [hc] at h
        cases h
        rw [List.length_cons, copy_len F s n (q + 1) k hc]
/-- memory of the same shape -/
def shape (F G : Fr) : Prop := G.length = F.length ∧ ∀ i, (fr G i).length = (fr F i).length
theorem shape_refl (F : Fr) : shape F F := ⟨rfl, fun _ => rfl⟩
theorem shape_trans {F G H : Fr} (a : shape F G) (b : shape G H) : shape F H := ⟨b.1.trans a.1, fun i => (b.2 i).trans (a.2 i)⟩
theorem shape_good {F G : Fr} (h : shape F G) (s : Sp) (q : Nat) (w : Bool) : good G s q w ↔ good F s q w := by
  unfold good there
  rw [h.1, h.2]
theorem fr_set (F : Fr) (i j : Nat) (x : List UInt8) (h : i < F.length) : fr (F.set i x) j = if j = i then x else fr F j := by
  unfold fr
  by_cases e : j = i
  · subst e
    rw [if_pos rfl]
    simp [List.getD_eq_getElem?_getD, h]
  · rw [if_neg e]
    simp only [List.getD_eq_getElem?_getD]
    rw [List.getElem?_set_ne (fun k => e k.symm)]
theorem set_some {F G : Fr} {s : Sp} {q : Nat} {b : UInt8} (h : setB F s q b = some G) : good F s q true ∧ G = F.set (fn s q) ((fr F (fn s q)).set (q % 128) b) := by
  unfold setB at h
  by_cases g : good F s q true
  · rw [if_pos g] at h
    cases h
    exact ⟨g, rfl⟩
  · rw [if_neg g] at h; cases h
theorem set_good {F : Fr} {s : Sp} {q : Nat} {b : UInt8} (h : good F s q true) : setB F s q b = some (F.set (fn s q) ((fr F (fn s q)).set (q % 128) b)) := if_pos h
theorem set_none {F : Fr} {s : Sp} {q : Nat} {b : UInt8} (h : ¬ good F s q true) : setB F s q b = none := if_neg h
theorem set_shape {F G : Fr} {s : Sp} {q : Nat} {b : UInt8} (h : setB F s q b = some G) : shape F G := by
  obtain ⟨g, rfl⟩ := set_some h
  refine ⟨List.length_set, fun i => ?_⟩
  rw [fr_set _ _ _ _ (good_lt g)]
  by_cases e : i = fn s q
  · rw [if_pos e, e, List.length_set]
  · rw [if_neg e]
theorem lay_shape (s : Sp) : ∀ (d : List UInt8) (F : Fr) (q : Nat) (G : Fr), layB s F q d = some G → shape F G
  | [], F, q, G, h => by rw [lay_nil] at h; cases h; exact shape_refl _
  | b :: d, F, q, G, h => by
    rw [lay_cons] at h
    cases hs : setB F s q b with
    | none => rw [hs] at h; cases h
    | some H => rw [hs] at h; exact shape_trans (set_shape hs) (lay_shape s d H (q + 1) G h)
/-- a page with other bytes at a place -/
def over (l : List UInt8) (p : Nat) (d : List UInt8) : List UInt8 := l.take p ++ d ++ l.drop (p + d.length)
theorem over_nil (l : List UInt8) (p : Nat) : over l p [] = l := by simp [over]
theorem over_len {l : List UInt8} {p : Nat} {d : List UInt8} (h : p + d.length ≤ l.length) : (over l p d).length = l.length := by simp [over]; omega
theorem over_cons {l : List UInt8} {p : Nat} {b : UInt8} {d : List UInt8} (h : p + (d.length + 1) ≤ l.length) : over (l.set p b) (p + 1) d = over l p (b :: d) := by
  unfold over
  rw [List.length_cons, List.take_add_one, List.getElem?_set_self (by omega), List.take_set_of_le (Nat.le_refl _), List.drop_set_of_lt (by omega), show p + 1 + d.length = p + (d.length + 1) from by omega]
  simp
theorem lay_page (s : Sp) : ∀ (d : List UInt8) (F : Fr) (q : Nat), q % 128 + d.length ≤ 128 → good F s q true → layB s F q d = some (F.set (fn s q) (over (fr F (fn s q)) (q % 128) d))
  | [], F, q, _, hg => by
    rw [lay_nil, over_nil]
    congr 1
    apply List.ext_getElem?
    intro i
    by_cases e : i = fn s q
    · subst e
      rw [List.getElem?_set_self (good_lt hg)]
      unfold fr
      simp [List.getD_eq_getElem?_getD, good_lt hg]
    · rw [List.getElem?_set_ne (fun k => e k.symm)]
  | [b], F, q, h, hg => by
    have hl := good_len hg
    rw [lay_cons, set_good hg, Option.bind_some, lay_nil, ← over_cons (by simp at h ⊢; omega), over_nil]
  | b :: c :: d, F, q, h, hg => by
    have hl := good_len hg
    have h' : q % 128 + (d.length + 1 + 1) ≤ 128 := h
    have f1 : fn s (q + 1) = fn s q := fn_at (by omega)
    have p1 : (q + 1) % 128 = q % 128 + 1 := (page_at (by omega)).2
    have g0 := set_good (b := b) hg
    have g1 : good (F.set (fn s q) ((fr F (fn s q)).set (q % 128) b)) s (q + 1) true := (shape_good (set_shape g0) s _ true).2 ((good_at (by omega)).2 hg)
    rw [lay_cons, g0, Option.bind_some, lay_page s (c :: d) _ (q + 1) (by rw [p1, List.length_cons]; omega) g1, f1, p1, fr_set _ _ _ _ (good_lt hg), if_pos rfl, over_cons (by rw [List.length_cons]; omega), List.set_set]
theorem lay_bad {F : Fr} {s : Sp} {q : Nat} {d : List UInt8} (h : ¬ good F s q true) (hd : d ≠ []) : layB s F q d = none := by
  cases d with
  | nil => exact absurd rfl hd
  | cons b d => rw [lay_cons, set_none h]; rfl
/-- no two pages have one frame -/
def apart (s : Sp) : Prop := ∀ i j, i < j → (pt s i).is = true → (pt s j).is = true → (pt s i).f ≠ (pt s j).f
theorem apart_fn {s : Sp} (h : apart s) {F : Fr} {q r : Nat} {w v : Bool} (hq : good F s q w) (hr : good F s r v) (e : fn s q = fn s r) : q / 128 = r / 128 := by
  have e2 : (pt s (q / 128)).f = (pt s (r / 128)).f := by
    have a := hq.2.2.1
    have b := hr.2.2.1
    unfold fn at e
    omega
  rcases Nat.lt_trichotomy (q / 128) (r / 128) with k | k | k
  · exact absurd e2 (h _ _ k hq.2.1.1 hr.2.1.1)
  · exact k
  · exact absurd e2.symm (h _ _ k hr.2.1.1 hq.2.1.1)
theorem good_read {F : Fr} {s : Sp} {q : Nat} (h : good F s q true) : good F s q false := ⟨h.1, ⟨h.2.1.1, fun k => by cases k⟩, h.2.2⟩
theorem byte_set {F G : Fr} {s : Sp} {q : Nat} {b : UInt8} (h : setB F s q b = some G) : byte G s q = some b := by
  have hs := set_shape h
  obtain ⟨g, rfl⟩ := set_some h
  rw [byte_good ((shape_good hs s q false).2 (good_read g)), fr_set _ _ _ _ (good_lt g), if_pos rfl]
  have := good_len g
  congr 1
  rw [List.getD_eq_getElem?_getD, List.getElem?_set_self (by rw [this]; omega)]
  rfl
theorem byte_other {F G : Fr} {s : Sp} (ha : apart s) {q r : Nat} {b : UInt8} (h : setB F s q b = some G) (hr : r ≠ q) : byte G s r = byte F s r := by
  have hs := set_shape h
  obtain ⟨g, rfl⟩ := set_some h
  by_cases k : good F s r false
  · rw [byte_good k, byte_good ((shape_good hs s r false).2 k), fr_set _ _ _ _ (good_lt g)]
    by_cases e : fn s r = fn s q
    · rw [if_pos e, e]
      have := apart_fn ha k g e
      congr 1
      rw [List.getD_eq_getElem?_getD, List.getElem?_set_ne (by omega), ← List.getD_eq_getElem?_getD]
    · rw [if_neg e]
  · rw [byte_none k, byte_none (fun x => k ((shape_good hs s r false).1 x))]
theorem lay_other {s : Sp} (ha : apart s) : ∀ (d : List UInt8) (F : Fr) (q : Nat) (G : Fr), layB s F q d = some G → ∀ r, (r < q ∨ q + d.length ≤ r) → byte G s r = byte F s r
  | [], F, q, G, h, r, _ => by rw [lay_nil] at h; cases h; rfl
  | b :: d, F, q, G, h, r, hr => by
    rw [lay_cons] at h
    rw [List.length_cons] at hr
    cases hs : setB F s q b with
    | none => rw [hs] at h; cases h
    | some H =>
      rw [hs] at h
      rw [lay_other ha d H (q + 1) G h r (by omega), byte_other ha hs (by omega)]
theorem lay_copy {s : Sp} (ha : apart s) : ∀ (d : List UInt8) (F : Fr) (q : Nat) (G : Fr), layB s F q d = some G → copyB G s q d.length = some d
  | [], F, q, G, h => by rw [List.length_nil, copy_nil]
  | b :: d, F, q, G, h => by
    rw [lay_cons] at h
    cases hs : setB F s q b with
    | none => rw [hs] at h; cases h
    | some H =>
      rw [hs] at h
      rw [List.length_cons, copy_cons, lay_other ha d H (q + 1) G h q (by omega), byte_set hs, Option.bind_some, lay_copy ha d H (q + 1) G h]
      rfl
theorem lay_good {s : Sp} : ∀ (d : List UInt8) (F : Fr) (q : Nat) (G : Fr), layB s F q d = some G → ∀ i, i < d.length → good F s (q + i) true
  | [], F, q, G, h, i, hi => by simp at hi
  | b :: d, F, q, G, h, i, hi => by
    rw [lay_cons] at h
    cases hs : setB F s q b with
    | none => rw [hs] at h; cases h
    | some H =>
      rw [hs] at h
      match i, hi with
      | 0, _ => exact (set_some hs).1
      | i + 1, hi =>
        have := lay_good d H (q + 1) G h i (by simpa using hi)
        rw [show q + (i + 1) = q + 1 + i from by omega]
        exact (shape_good (set_shape hs) s _ true).1 this
/-- nobody else's frames -/
def owns (s : Sp) (f : Int) : Prop := ∃ i, (pt s i).is = true ∧ (pt s i).f = f
theorem lay_frames {s : Sp} : ∀ (d : List UInt8) (F : Fr) (q : Nat) (G : Fr), layB s F q d = some G → ∀ f : Nat, ¬ owns s f → fr G f = fr F f
  | [], F, q, G, h, f, _ => by rw [lay_nil] at h; cases h; rfl
  | b :: d, F, q, G, h, f, hf => by
    rw [lay_cons] at h
    cases hs : setB F s q b with
    | none => rw [hs] at h; cases h
    | some H =>
      rw [hs] at h
      rw [lay_frames d H (q + 1) G h f hf]
      obtain ⟨g, rfl⟩ := set_some hs
      rw [fr_set _ _ _ _ (good_lt g), if_neg]
      intro e
      refine hf ⟨q / 128, g.2.1.1, ?_⟩
      have := g.2.2.1
      unfold fn at e
      omega
theorem byte_frames {F G : Fr} {s : Sp} (hs : shape F G) (h : ∀ f : Nat, owns s f → fr G f = fr F f) (q : Nat) : byte G s q = byte F s q := by
  by_cases k : good F s q false
  · rw [byte_good k, byte_good ((shape_good hs s q false).2 k), h _ ⟨q / 128, k.2.1.1, by have := k.2.2.1; unfold fn; omega⟩]
  · rw [byte_none k, byte_none (fun x => k ((shape_good hs s q false).1 x))]
theorem copy_frames {F G : Fr} {s : Sp} (h : ∀ q, byte G s q = byte F s q) : ∀ n q, copyB G s q n = copyB F s q n
  | 0, q => by rw [copy_nil, copy_nil]
  | n + 1, q => by rw [copy_cons, copy_cons, h, copy_frames h n (q + 1)]
/-- a number of memory -/
def loadM (F : Fr) (s : Sp) (q : Nat) (n : Int) : Option Nat := if okAt q n ∧ good F s q false then some (Nu.getB (((fr F (fn s q)).drop (q % 128)).take n.toNat)) else none
def storeM (F : Fr) (s : Sp) (q : Nat) (n : Int) (v : Nat) : Option Fr := if okAt q n ∧ good F s q true then some (F.set (fn s q) (over (fr F (fn s q)) (q % 128) (Nu.putB v n.toNat))) else none
theorem ok_page {q : Nat} {n : Int} (h : okAt q n) : q % 128 + n.toNat ≤ 128 ∧ 1 ≤ n.toNat ∧ n.toNat ≤ 4 ∧ n = (n.toNat : Int) := by
  obtain ⟨h1, h2, h3⟩ := h
  rcases h1 with rfl | rfl
  · exact ⟨by show q % 128 + 1 ≤ 128; omega, by decide, by decide, by decide⟩
  · have : q % 4 = 0 := h3
    exact ⟨by show q % 128 + 4 ≤ 128; omega, by decide, by decide, by decide⟩
theorem find_good {F : Fr} {s : Sp} {q : Nat} {n : Int} {w : Bool} (h : okAt q n) (hm : may (pt s (q / 128)) w) (ht : there F (pt s (q / 128)).f) : good F s q w := ⟨h.2.1, hm, ht⟩
theorem load_one (F : Fr) (s : Sp) (q : Nat) : loadM F s q 1 = (byte F s q).map fun b => b.toNat := by
  unfold loadM
  by_cases g : good F s q false
  · have hl := good_len g
    rw [if_pos ⟨⟨.inl rfl, g.1, Nat.mod_one q⟩, g⟩, byte_good g]
    show some (Nu.getB (((fr F (fn s q)).drop (q % 128)).take 1)) = _
    rw [drop_take_cons (by omega)]
    simp [Nu.getB]
  · rw [if_neg (fun h => g h.2), byte_none g]; rfl
/-- of four bytes each is a byte -/
theorem load_four {F : Fr} {s : Sp} {q v : Nat} (h : loadM F s q 4 = some v) (i : Nat) (hi : i < 4) : loadM F s (q + i) 1 = some (v / 256 ^ i % 256) := by
  unfold loadM at h
  by_cases g : okAt q 4 ∧ good F s q false
  · rw [if_pos g] at h
    cases h
    have hp := ok_page g.1
    have h4 : ((4 : Int).toNat) = 4 := rfl
    rw [h4] at hp ⊢
    have hl := good_len g.2
    have gi : good F s (q + i) false := (good_at (by omega)).2 g.2
    rw [load_one, byte_good gi, fn_at (by omega), (page_at (by omega)).2]
    simp only [Option.map_some]
    generalize fr F (fn s q) = l at *
    congr 1
    have e := Nu.put_get ((l.drop (q % 128)).take 4)
    have el : ((l.drop (q % 128)).take 4).length = 4 := by simp; omega
    rw [el] at e
    have e2 := Nu.putB_get 4 (Nu.getB ((l.drop (q % 128)).take 4)) i (by rw [Nu.putB_length]; omega)
    have e3 : ((l.drop (q % 128)).take 4)[i]'(by rw [el]; exact hi) = l[q % 128 + i]'(by omega) := by simp
    have e4 : (Nu.putB (Nu.getB ((l.drop (q % 128)).take 4)) 4)[i]'(by rw [Nu.putB_length]; omega) = ((l.drop (q % 128)).take 4)[i]'(by rw [el]; exact hi) := by congr 1
    rw [e4, e3] at e2
    rw [List.getD_eq_getElem?_getD, List.getElem?_eq_getElem (by omega), Option.getD_some, e2]
    exact Nu.toNat_ofNat (Nat.mod_lt _ (by omega))
  · rw [if_neg g] at h; cases h
theorem store_some {F G : Fr} {s : Sp} {q v : Nat} {n : Int} (h : storeM F s q n v = some G) : okAt q n ∧ good F s q true ∧ G = F.set (fn s q) (over (fr F (fn s q)) (q % 128) (Nu.putB v n.toNat)) := by
  unfold storeM at h
  by_cases g : okAt q n ∧ good F s q true
  · rw [if_pos g] at h
    cases h
    exact ⟨g.1, g.2, rfl⟩
  · rw [if_neg g] at h; cases h
theorem store_lay (F : Fr) (s : Sp) (q v : Nat) (n : Int) (h : okAt q n) : storeM F s q n v = layB s F q (Nu.putB v n.toNat) := by
  have hp := ok_page h
  unfold storeM
  by_cases g : good F s q true
  · rw [if_pos ⟨h, g⟩, lay_page s _ F q (by rw [Nu.putB_length]; exact hp.1) g]
  · rw [if_neg (fun k => g k.2), lay_bad g]
    intro e
    have := congrArg List.length e
    rw [Nu.putB_length] at this
    simp at this
    omega
theorem over_at {l d : List UInt8} {p : Nat} (h : p + d.length ≤ l.length) : ((over l p d).drop p).take d.length = d := by
  unfold over
  have e : (l.take p).length = p := by simp; omega
  rw [List.append_assoc, List.drop_left' e, List.take_left' rfl]
theorem store_load {F G : Fr} {s : Sp} {q v : Nat} {n : Int} (h : storeM F s q n v = some G) : loadM G s q n = some (v % 256 ^ n.toNat) := by
  have hs : shape F G := by
    rw [store_lay F s q v n (store_some h).1] at h
    exact lay_shape s _ F q G h
  obtain ⟨ho, g, rfl⟩ := store_some h
  have hp := ok_page ho
  have hl := good_len g
  unfold loadM
  rw [if_pos ⟨ho, (shape_good hs s q false).2 (good_read g)⟩, fr_set _ _ _ _ (good_lt g), if_pos rfl]
  have := over_at (l := fr F (fn s q)) (d := Nu.putB v n.toNat) (p := q % 128) (by rw [Nu.putB_length]; omega)
  rw [Nu.putB_length] at this
  rw [this, Nu.get_put]
/-- what the calls answer -/
def copyM (F : Fr) (s : Sp) (q : Nat) (n : Int) : Option (List UInt8) := if 0 ≤ n ∧ q ≤ 2048 ∧ (q : Int) + n ≤ 2048 then copyB F s q n.toNat else none
def layM (F : Fr) (s : Sp) (q : Nat) (d : List UInt8) : Option Fr := if q ≤ 2048 ∧ q + d.length ≤ 2048 then layB s F q d else none
end Mm
end Go.Proofs.Ytkbelpkmlmfedaa
