/-
  How a row of acts that comes in is opened.
-/
import Derived.Test.YtmolbliooaofbaaHm
namespace Go.Proofs.Ytmolbliooaofbaa
set_option linter.unusedVariables false
set_option maxRecDepth 100000
set_option linter.unusedSimpArgs false
open Go.ChangeShapes Go.WideShapes Go.ChangeAt Go.RowKit Go.Deep
namespace Dw
open _root_.Go.Proofs.Ytmolbliooaofbaa.Nm
open Dm (Wr wnth)
/-- an act, with its slice of picks -/
structure Ac where
  kind : Int
  i : Int
  t : ByteArray
  A : Option Addr
  n : Nat
  c : Nat
  K : List Int
def Ac.nil : Ac := ⟨0, 0, ⟨#[]⟩, none, 0, 0, []⟩
def Ac.cs (x : Ac) : Array Value := #[.int .i64 x.kind, .int .i64 x.i, .string x.t, .slice x.A x.n x.c]
def anth (l : List Ac) (j : Nat) : Ac := l.getD j Ac.nil
structure Ac.Ok (x : Ac) (w : World) : Prop where
  k : -9223372036854775808 ≤ x.kind ∧ x.kind ≤ 9223372036854775807
  i : -9223372036854775808 ≤ x.i ∧ x.i ≤ 9223372036854775807
  z : Iz w x.A x.n x.K
/-- a row of acts that is read -/
structure Az (w : World) (A : Option Addr) (n : Nat) (l : List Ac) : Prop where
  len : l.length = n
  c : 0 < n → ∃ b off, A = some ⟨b, off, none⟩ ∧ ∀ j, j < n → w.cell? ⟨b, off + j * 4, none⟩ = some (.int .i64 (anth l j).kind) ∧ w.cell? ⟨b, off + j * 4 + 1, none⟩ = some (.int .i64 (anth l j).i) ∧
    w.cell? ⟨b, off + j * 4 + 2, none⟩ = some (.string (anth l j).t) ∧ w.cell? ⟨b, off + j * 4 + 3, none⟩ = some (.slice (anth l j).A (anth l j).n (anth l j).c)
  ok : ∀ j, j < n → (anth l j).Ok w
  m : n ≤ 9223372036854775807
theorem Az.below {a b : World} {A : Option Addr} {n : Nat} {l : List Ac} (h : Az a A n l) (k : Below a.heap.size a b) : Az b A n l :=
  ⟨h.len, (fun h0 => by
    obtain ⟨g, off, e, hc⟩ := h.c h0
    refine ⟨g, off, e, fun j hj => ?_⟩
    obtain ⟨c0, c1, c2, c3⟩ := hc j hj
    have hg : g < a.heap.size := World.block_lt_of_cell? _ _ c0
    exact ⟨(k.cell hg).trans c0, (k.cell hg).trans c1, (k.cell hg).trans c2, (k.cell hg).trans c3⟩), (fun j hj => ⟨(h.ok j hj).k, (h.ok j hj).i, (h.ok j hj).z.below k⟩), h.m⟩
theorem cells37 : Try.prog.cellsOf 37 = 4 := by kernel_rfl
theorem cells35 : Try.prog.cellsOf 35 = 1 := by kernel_rfl
theorem trod37 {H : Type} {enc : TypeId × Value → H} {W : World} {fuel : Nat} {cs : List Value} {y : DataW H × List MemPlace} (hsz : cs.length = 4) (h : DataW.trod enc Try.prog W 0 (fun _ => true) true fuel 37 cs = some y) :
    ∃ x : Ac, cs = [.int .i64 x.kind, .int .i64 x.i, .string x.t, .slice x.A x.n x.c] ∧ x.Ok W := by
  obtain ⟨xs, n, _, _, _, hlen, hx⟩ := DataW.trod_struct Try.underlying37 h
  match cs, hsz with
  | [c0, c1, c2, c3], _ =>
    have g : ∀ i, i < 4 → ∃ y, xs[i]? = some y := fun i hi => ⟨_, List.getElem?_eq_getElem (show i < xs.length by rw [hlen]; exact hi)⟩
    obtain ⟨y0, e0⟩ := g 0 (by omega)
    obtain ⟨y1, e1⟩ := g 1 (by omega)
    obtain ⟨y2, e2⟩ := g 2 (by omega)
    obtain ⟨y3, e3⟩ := g 3 (by omega)
    have t0 : DataW.trod enc Try.prog W 0 (fun _ => true) true n 3 (([c0, c1, c2, c3].drop 0).take (Try.prog.cellsOf 3)) = xs[0]? := hx 0 _ rfl
    have t1 : DataW.trod enc Try.prog W 0 (fun _ => true) true n 3 (([c0, c1, c2, c3].drop 1).take (Try.prog.cellsOf 3)) = xs[1]? := hx 1 _ rfl
    have t2 : DataW.trod enc Try.prog W 0 (fun _ => true) true n 9 (([c0, c1, c2, c3].drop 2).take (Try.prog.cellsOf 9)) = xs[2]? := hx 2 _ rfl
    have t3 : DataW.trod enc Try.prog W 0 (fun _ => true) true n 35 (([c0, c1, c2, c3].drop 3).take (Try.prog.cellsOf 35)) = xs[3]? := hx 3 _ rfl
    rw [e0, cells3] at t0
    rw [e1, cells3] at t1
    rw [e2, cells9] at t2
    rw [e3, cells35] at t3
    simp only [List.drop_zero, List.drop_succ_cons, List.take_succ_cons, List.take_zero] at t0 t1 t2 t3
    obtain ⟨r, hr, _, hr2⟩ := DataW.trod_int Try.underlying3 t0
    obtain ⟨r', hr', _, hr2'⟩ := DataW.trod_int Try.underlying3 t1
    obtain ⟨s, hs, _, _⟩ := DataW.trod_string Try.underlying9 t2
    obtain ⟨A, m, cap, l, rfl, hI⟩ := ints_of t3
    simp only [List.cons.injEq, and_true] at hr hr' hs
    subst hr hr' hs
    exact ⟨⟨r, r', s, A, m, cap, l⟩, rfl, wf_i64 hr2, wf_i64 hr2', hI⟩
theorem acts_of {H : Type} {enc : TypeId × Value → H} {W : World} {fuel : Nat} {c : Value} {y : DataW H × List MemPlace} (h : DataW.trod enc Try.prog W 0 (fun _ => true) true fuel 34 [c] = some y) :
    ∃ A n cap l, c = .slice A n cap ∧ Az W A n l := by
  rcases open_slice Try.underlying34 h with ⟨hcs, _⟩ | ⟨x, len, cap, m, f2, D, Pl', hcs, hb, hl, hm, hmm, hx, hi⟩
  · simp at hcs
    subst hcs
    exact ⟨none, 0, 0, [], rfl, rfl, (fun h => absurd h (by omega)), (fun j hj => absurd hj (Nat.not_lt_zero _)), by omega⟩
  · simp at hcs
    subst hcs
    simp only [if_true] at hmm
    subst hmm
    obtain ⟨b, off, spot⟩ := x
    have raw : ∀ i, i < len → ∃ y : Ac, (W.cell? (((⟨b, off, spot⟩ : Addr).add (i * 4)).add 0) = some (.int .i64 y.kind) ∧ W.cell? (((⟨b, off, spot⟩ : Addr).add (i * 4)).add 1) = some (.int .i64 y.i) ∧
        W.cell? (((⟨b, off, spot⟩ : Addr).add (i * 4)).add 2) = some (.string y.t) ∧ W.cell? (((⟨b, off, spot⟩ : Addr).add (i * 4)).add 3) = some (.slice y.A y.n y.c)) ∧ y.Ok W := fun i hin => by
      obtain ⟨cs', hc, ht⟩ := hi i (by omega)
      rw [cells37] at hc
      obtain ⟨_, hcl, hat⟩ := World.cells?_some hc
      obtain ⟨x, rfl, hok⟩ := trod37 hcl ht
      exact ⟨x, ⟨hat 0 (by omega), hat 1 (by omega), hat 2 (by omega), hat 3 (by omega)⟩, hok⟩
    have pick : ∀ k, k ≤ len → ∃ l : List Ac, l.length = k ∧ ∀ i, i < k → (W.cell? (((⟨b, off, spot⟩ : Addr).add (i * 4)).add 0) = some (.int .i64 (anth l i).kind) ∧ W.cell? (((⟨b, off, spot⟩ : Addr).add (i * 4)).add 1) = some (.int .i64 (anth l i).i) ∧
        W.cell? (((⟨b, off, spot⟩ : Addr).add (i * 4)).add 2) = some (.string (anth l i).t) ∧ W.cell? (((⟨b, off, spot⟩ : Addr).add (i * 4)).add 3) = some (.slice (anth l i).A (anth l i).n (anth l i).c)) ∧ (anth l i).Ok W := by
      intro k
      induction k with
      | zero => exact fun _ => ⟨[], rfl, fun i h => absurd h (Nat.not_lt_zero _)⟩
      | succ k ih =>
        intro hk
        obtain ⟨l, hl, hp⟩ := ih (by omega)
        obtain ⟨y, hy⟩ := raw k (by omega)
        refine ⟨l ++ [y], by simp [hl], fun i hi => ?_⟩
        by_cases hik : i < l.length
        · have : anth (l ++ [y]) i = anth l i := by unfold anth; rw [List.getD_eq_getElem?_getD, List.getD_eq_getElem?_getD, List.getElem?_append_left hik]
          rw [this]
          exact hp i (by omega)
        · obtain rfl : i = l.length := by omega
          have : anth (l ++ [y]) l.length = y := by
            unfold anth
            rw [List.getD_eq_getElem?_getD, List.getElem?_append_right (Nat.le_refl _), Nat.sub_self]; rfl
          rw [this, hl]
          exact hy
    obtain ⟨l, hll, hp⟩ := pick len (Nat.le_refl _)
    refine ⟨_, len, _, l, rfl, hll, fun hpos => ?_, fun j hj => (hp j hj).2, by unfold maxLen at hm; omega⟩
    have hsp : spot = none := by
      obtain ⟨y, ⟨hy, _⟩, _⟩ := raw 0 (by omega)
      simpa [Addr.add] using World.cell?_spot hy
    subst hsp
    refine ⟨b, off, rfl, fun i hi => ?_⟩
    obtain ⟨h0, h1, h2, h3⟩ := (hp i hi).1
    rw [Addr.add_mid, Addr.add_mid] at h0 h1 h2 h3
    rw [Nat.add_zero] at h0
    exact ⟨h0, h1, h2, h3⟩
theorem okActs {H : Type} {enc : TypeId × Value → H} {W : World} {base : Nat} {v : Value} {d : DataW H} {p : List MemPlace} (hv : Value.okWide Try.prog W .any base 34 v) (h : DataW.Trod enc Try.prog W 0 (fun _ => true) true 34 v d p) :
    ∃ (A : Option Addr) (n c : Nat) (l : List Ac), v = .slice A n c ∧ Az W A n l := by
  obtain ⟨A, n, c, rfl⟩ := okWide_slice Try.underlying34 hv
  obtain ⟨fuel, hf⟩ := h
  simp only [Value.cells] at hf
  obtain ⟨A1, n1, c1, l, e, hz⟩ := acts_of hf
  cases e
  exact ⟨A, n, c, l, rfl, hz⟩
end Dw
end Go.Proofs.Ytmolbliooaofbaa
