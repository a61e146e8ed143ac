/-
  Boxes of a drive: loaded, stored whole; a world in which one block has changed.
-/
import Derived.Test.YtmolbliooaofbaaPw
import Derived.Laws.Tables
import Derived.Laws.Rows
import Derived.Deep.WholeRow
namespace Go.Proofs.Ytmolbliooaofbaa
set_option linter.unusedVariables false
set_option maxRecDepth 100000
set_option linter.unusedSimpArgs false
open Go.RowKit
namespace Dw
open _root_.Go.Proofs.Ytmolbliooaofbaa.Nm
open Dm (Wr wnth)
/-- a text of the row is set -/
theorem _root_.Go.Proofs.Ytmolbliooaofbaa.Nm.RS.put {w : World} {B g n cap : Nat} {l : List ByteArray} (h : RS w B (some ⟨g, 0, none⟩) n cap l) (k : Nat) (y : ByteArray) : RS (w.setCell ⟨g, k, none⟩ (.string y)) B (some ⟨g, 0, none⟩) n cap (l.set k y) := by
  obtain ⟨h1, h2, h3⟩ := h
  rcases h3 with ⟨e, _⟩ | ⟨g', c, cur, e, hB, hg, hc, hm, hs, ht⟩
  · cases e
  · cases e
    refine ⟨by simp [h1], by simpa using h2, .inr ⟨g, cap, cur.setIfInBounds k (.string y), rfl, hB, Own.set hg k _, hc, hm, by simp [hs], ?_⟩⟩
    rw [Array.toList_setIfInBounds, List.take_set, ht, List.map_set]
    rfl
theorem _root_.Go.Proofs.Ytmolbliooaofbaa.Nm.RS.cell {w : World} {B g n cap : Nat} {l : List ByteArray} (h : RS w B (some ⟨g, 0, none⟩) n cap l) {k : Nat} (hk : k < n) : w.cell? ⟨g, k, none⟩ = some (.string (nth l k)) := by
  obtain ⟨b, off, e, hc⟩ := h.ts.2 (by omega)
  have c := hc k hk
  have h3 := h.2.2
  rcases h3 with ⟨e', _⟩ | ⟨g', c', cur, e', hB, hg, _⟩
  · cases e'
  · cases e
    rwa [Nat.zero_add] at c
theorem _root_.Go.Proofs.Ytmolbliooaofbaa.Nm.RS.frozen {w : World} {B g n cap : Nat} {l : List ByteArray} (h : RS w B (some ⟨g, 0, none⟩) n cap l) (k : Nat) : w.frozen? ⟨g, k, none⟩ = false := by
  rcases h.2.2 with ⟨e', _⟩ | ⟨g', c', cur, e', hB, hg, _⟩
  · cases e'
  · cases e'
    exact Own.frozen hg k
theorem _root_.Go.Proofs.Ytmolbliooaofbaa.Nm.RS.lt {w : World} {B g n cap : Nat} {l : List ByteArray} (h : RS w B (some ⟨g, 0, none⟩) n cap l) : B ≤ g ∧ g < w.heap.size := by
  rcases h.form with ⟨e, _⟩ | ⟨g', e, h1, h2⟩
  · cases e
  · cases e; exact ⟨h1, h2⟩
theorem _root_.Go.Proofs.Ytmolbliooaofbaa.Nm.Own.other {w : World} {g : Nat} {t : TypeId} {cs : Array Value} (h : Own w g t cs) {a : Addr} (hne : a.block ≠ g) (v : Value) : Own (w.setCell a v) g t cs :=
  (Below.heap_setCell w a v g (fun e => hne e.symm)).trans h
theorem _root_.Go.Proofs.Ytmolbliooaofbaa.Nm.RS.other {w : World} {B n cap : Nat} {A : Option Addr} {l : List ByteArray} (h : RS w B A n cap l) {a : Addr} (hne : (Value.slice A n cap).ownBlock ≠ some a.block) (v : Value) : RS (w.setCell a v) B A n cap l :=
  ⟨h.1, ownsRow_setCell_other h.2 hne v⟩
theorem _root_.Go.Proofs.Ytmolbliooaofbaa.Nm.Own.below {w w' : World} {g : Nat} {t : TypeId} {cs : Array Value} (h : Own w g t cs) (hb : Below w.heap.size w w') : Own w' g t cs := (hb.block g h.lt).trans h
/-- but for block g the world is as it was -/
structure St (g : Nat) (w w' : World) : Prop where
  os : w'.os = w.os
  tape : w'.tape = w.tape
  output : w'.output = w.output
  size : w'.heap.size = w.heap.size
  block : ∀ k, k ≠ g → w'.heap[k]? = w.heap[k]?
theorem St.refl (g : Nat) (w : World) : St g w w := ⟨rfl, rfl, rfl, rfl, fun _ _ => rfl⟩
theorem St.trans {g : Nat} {a b c : World} (h : St g a b) (k : St g b c) : St g a c := ⟨k.os.trans h.os, k.tape.trans h.tape, k.output.trans h.output, k.size.trans h.size, fun x hx => (k.block x hx).trans (h.block x hx)⟩
theorem St.cellOf (w : World) (g i : Nat) (v : Value) : St g w (w.setCell ⟨g, i, none⟩ v) := ⟨rfl, rfl, rfl, by simp, fun k hk => Below.heap_setCell w ⟨g, i, none⟩ v k hk⟩
theorem St.row (w : World) (g : Nat) (cs : Array Value) : St g w (w.setRow g cs) := ⟨rfl, rfl, rfl, by simp, fun k hk => setRow_other w g k cs hk⟩
theorem St.below {g B : Nat} {w0 w w' : World} (h : St g w w') (hb : Below B w0 w) (hB : B ≤ g) : Below B w0 w' :=
  ⟨h.os.trans hb.os, h.tape.trans hb.tape, h.output.trans hb.output, by rw [h.size]; exact hb.size, fun k hk => (h.block k (by omega)).trans (hb.block k hk)⟩
theorem St.own {g k : Nat} {w w' : World} {t : TypeId} {cs : Array Value} (h : St g w w') (ho : Own w k t cs) (hk : k ≠ g) : Own w' k t cs := (h.block k hk).trans ho
theorem St.rs {g B n cap : Nat} {A : Option Addr} {w w' : World} {l : List ByteArray} (h : St g w w') (hr : RS w B A n cap l) (hg : g < B) : RS w' B A n cap l := by
  refine ⟨hr.1, hr.2.1, ?_⟩
  rcases hr.2.2 with h1 | ⟨g', c, cur, h1, h2, h3, h4⟩
  · exact .inl h1
  · exact .inr ⟨g', c, cur, h1, h2, (h.block g' (by omega)).trans h3, h4⟩
theorem St.rp {g B n cap : Nat} {A : Option Addr} {w w' : World} {l : List Wr} (h : St g w w') (hr : RP w B A n cap l) (hg : g < B) : RP w' B A n cap l := by
  refine ⟨hr.1, hr.2.1, ?_⟩
  rcases hr.2.2 with h1 | ⟨g', c, cur, h1, h2, h3, h4⟩
  · exact .inl h1
  · exact .inr ⟨g', c, cur, h1, h2, (h.block g' (by omega)).trans h3, h4⟩
theorem Pl.st {g b o : Nat} {w w' : World} {l : List Wr} (hp : Pl w b o l) (h : St g w w') (hg : b ≠ g) : Pl w' b o l := fun i hi => by
  obtain ⟨h1, h2⟩ := hp i hi
  exact ⟨(World.cell?_of_block (w := w) (a := ⟨b, _, none⟩) (h.block b hg)).trans h1, (World.cell?_of_block (w := w) (a := ⟨b, _, none⟩) (h.block b hg)).trans h2⟩
theorem _root_.Go.Proofs.Ytmolbliooaofbaa.Nm.RS.mono {w : World} {B B' n cap : Nat} {A : Option Addr} {l : List ByteArray} (hr : RS w B A n cap l) (hB : B' ≤ B) : RS w B' A n cap l := by
  refine ⟨hr.1, hr.2.1, ?_⟩
  rcases hr.2.2 with h1 | ⟨g', c, cur, h1, h2, h3, h4⟩
  · exact .inl h1
  · exact .inr ⟨g', c, cur, h1, by omega, h3, h4⟩
theorem RP.mono {w : World} {B B' n cap : Nat} {A : Option Addr} {l : List Wr} (hr : RP w B A n cap l) (hB : B' ≤ B) : RP w B' A n cap l := by
  refine ⟨hr.1, hr.2.1, ?_⟩
  rcases hr.2.2 with h1 | ⟨g', c, cur, h1, h2, h3, h4⟩
  · exact .inl h1
  · exact .inr ⟨g', c, cur, h1, by omega, h3, h4⟩
theorem info25 : (Try.prog.info? 25).map (·.size) = some 3 := by kernel_rfl
theorem dv_one (A : Option Addr) (n c : Nat) (A' : Option Addr) (m c' : Nat) (l : Int) : (dv A n c A' m c' l).all (·.oneCell') = true := by
  rw [Array.all_eq_true_iff_forall_mem]
  intro v hv
  simp at hv
  rcases hv with rfl | rfl | rfl <;> rfl
theorem ld25 {ops : Array Oper} {rest : List Oper} {o : Oper} {a : Act} {w : World} {Q : Exit → Act → World → Prop} {x : Operand} {g : Nat} {A : Option Addr} {n c : Nat} {A' : Option Addr} {m c' : Nat} {l : Int}
    (hgd : o.guard = none) (ho : o.op = .load 25 x) (hx : a.eval x = .pointer (some ⟨g, 0, none⟩)) (hg : Own w g 25 (dv A n c A' m c' l))
    (h : wpList Try.prog ops Q rest (a.put o.dst (.agg (dv A n c A' m c' l))) w) : wpList Try.prog ops Q (o :: rest) a w :=
  wpList_load_row hgd 25 x ho g hx 25 _ (0, 0) _ hg Try.underlying25 rfl info25 h
/-- a drive is stored whole -/
theorem sto25 {ops : Array Oper} {rest : List Oper} {o : Oper} {a : Act} {w : World} {Q : Exit → Act → World → Prop} {x y : Operand} {g : Nat} {A : Option Addr} {n c : Nat} {A' : Option Addr} {m c' : Nat} {l : Int} {cs : Array Value}
    (hgd : o.guard = none) (ho : o.op = .store 25 x y) (hx : a.eval x = .pointer (some ⟨g, 0, none⟩)) (hy : a.eval y = .agg (dv A n c A' m c' l)) (hg : Own w g 25 cs) (hs : cs.size = 3)
    (h : ∀ w', Own w' g 25 (dv A n c A' m c' l) → St g w w' → wpList Try.prog ops Q rest (a.put o.dst undef) w') : wpList Try.prog ops Q (o :: rest) a w :=
  wpList_store_row hgd 25 x y ho g _ hx hy 25 cs hg info25 (by rw [hs]; rfl) (dv_one ..) (h _ (setRow_heap w g cs _ 25 (0, 0) hg) (St.row w g _))
theorem res25 {fn : Func} {p : Tmp} {R : Ending → World → Prop} {a : Act} {w : World} {g : Nat} {A : Option Addr} {n c : Nat} {A' : Option Addr} {m c' : Nat} {l : Int}
    (hr : fn.results = #[.cell p 25]) (hp : a.tmps.getD p undef = .pointer (some ⟨g, 0, none⟩)) (hg : Own w g 25 (dv A n c A' m c' l)) (hd : a.defers = [])
    (hR : R (.returned (.agg (dv A n c A' m c' l))) w) : bodyPost Try.prog fn R .ret a w :=
  bodyPost_ret (results_cell_row hr a.tmps w g 25 _ (0, 0) _ hp hg Try.underlying25 rfl info25) hd hR
theorem res25e {fn : Func} {p q : Tmp} {R : Ending → World → Prop} {a : Act} {w : World} {g : Nat} {A : Option Addr} {n c : Nat} {A' : Option Addr} {m c' : Nat} {l : Int} {v : Value}
    (hr : fn.results = #[.cell p 25, .tmp q]) (hp : a.tmps.getD p undef = .pointer (some ⟨g, 0, none⟩)) (hq : a.tmps.getD q undef = v) (hg : Own w g 25 (dv A n c A' m c' l)) (hd : a.defers = [])
    (hR : R (.returned (.tuple #[.agg (dv A n c A' m c' l), v])) w) : bodyPost Try.prog fn R .ret a w := by
  refine bodyPost_ret ?_ hd hR
  have hp' : a.tmps[p]?.getD undef = .pointer (some ⟨g, 0, none⟩) := by simpa using hp
  have hq' : a.tmps[q]?.getD undef = v := by simpa using hq
  simp [results, hr, hp', hq', asAddr, run_loadVar_row w g 25 25 _ (0, 0) _ hg Try.underlying25 rfl info25]
end Dw
end Go.Proofs.Ytmolbliooaofbaa
