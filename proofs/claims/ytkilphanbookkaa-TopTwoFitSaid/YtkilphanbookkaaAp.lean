/-
  Rows of shares: a literal of them, and one more behind them.
-/
import Derived.Test.YtkilphanbookkaaSs
import Derived.Great.BuildSlice
import Derived.Great.FillDense
import Derived.OwnWalk
import Derived.Deep.AppendLies
import Derived.Maps.AppendAt
namespace Go.Proofs.Ytkilphanbookkaa
open Go.RowKit
set_option linter.unusedVariables false
set_option linter.unusedSimpArgs false
theorem info34p : ∃ i z, Try.prog.info? 31 = some i ∧ i.zero = some z ∧ i.size = 33 ∧ i.bytes = 33 ∧ z.cells.size = 33 := by
  obtain ⟨i, hi, hzz⟩ := Option.map_eq_some_iff.1 info34
  simp only [Prod.mk.injEq] at hzz
  exact ⟨i, _, hi, hzz.1, hzz.2.1, hzz.2.2, (vs_size _).trans (zs_length _)⟩
theorem cells_flat : ∀ S : List (List Nat), ((S.map fun s => Value.agg (vs s)).flatMap fun v => v.cells.toList) = vl S.flatten
  | [] => rfl
  | s :: S => by
    rw [List.map_cons, List.flatMap_cons, cells_flat S, List.flatten_cons, vl_append]
    rfl
theorem run_lit (S : List (List Nat)) (h33 : ∀ s ∈ S, s.length = 33) (h0 : 0 < S.length) (hm : S.length ≤ 1000) (parts : Array (Nat × Value)) (hp : parts.toList = ((S.map fun s => Value.agg (vs s)).zipIdx 0).map fun x => (x.2, x.1)) (w : World) :
    (Instr.buildSlice 25 S.length parts).run Try.prog w = .ok (.slice (some ⟨w.heap.size, 0, none⟩) S.length S.length) (w.alloc (.cells (vs S.flatten) 31)) := by
  obtain ⟨i, z, hi, hz, hs, _, hzs⟩ := info34p
  refine run_buildSlice w 25 31 S.length parts (vs S.flatten) i z Try.underlying25 hi hz (by rw [hs]; omega) (by rw [hs]; omega) ?_
  rw [hs, hp]
  have h := Go.Great.fill_whole (s := 33) (by omega) (S.map fun s => Value.agg (vs s)) ((Array.range (S.length * 33)).map (z.cells[· % z.cells.size]!)) (fun v hv => by
    obtain ⟨s, hs, rfl⟩ := List.mem_map.1 hv
    exact (vs_size s).trans (h33 s hs)) (by simp)
  rw [h, cells_flat]
  rfl
theorem exec_lit (S : List (List Nat)) (h33 : ∀ s ∈ S, s.length = 33) (h0 : 0 < S.length) (hm : S.length ≤ 1000) (ρ : Operand → Value) (o : Oper) {len : Nat} (hlen : len = S.length) (parts : Array (Nat × Operand)) (ho : o.op = .buildSlice 25 len parts)
    (hp : (parts.map fun (i, x) => (i, ρ x)).toList = ((S.map fun s => Value.agg (vs s)).zipIdx 0).map fun x => (x.2, x.1)) (w : World) :
    (execOp ρ o).run Try.prog w = .ok (.value (.slice (some ⟨w.heap.size, 0, none⟩) len len)) (w.alloc (.cells (vs S.flatten) 31)) := by
  subst hlen
  have h := run_lit S h33 h0 hm _ hp w
  unfold execOp
  simp only [ho, Sem.run_bind, h, Result.andThen_ok, Sem.run_pure]
theorem bsl {ops : Array Oper} {rest : List Oper} {o : Oper} {a : Act} {w : World} {Q : Exit → Act → World → Prop} (S : List (List Nat)) (h33 : ∀ s ∈ S, s.length = 33) (h0 : 0 < S.length) (hm : S.length ≤ 1000) (hgd : o.guard = none)
    {len : Nat} (parts : Array (Nat × Operand)) (ho : o.op = .buildSlice 25 len parts) (hlen : len = S.length)
    (hp : (parts.map fun (i, x) => (i, a.eval x)).toList = ((S.map fun s => Value.agg (vs s)).zipIdx 0).map fun x => (x.2, x.1))
    (h : wpList Try.prog ops Q rest (a.put o.dst (.slice (some ⟨w.heap.size, 0, none⟩) len len)) (w.alloc (.cells (vs S.flatten) 31))) : wpList Try.prog ops Q (o :: rest) a w := by
  refine wpList_plain hgd fun K hK => ?_
  unfold Oper.wp
  rw [exec_lit S h33 h0 hm a.eval o hlen parts ho hp w]
  exact hK _ _ h
theorem parts1 {ρ : Operand → Value} {x : Operand} {S : List Nat} (hx : ρ x = .agg (vs S)) : (#[((0 : Nat), x)].map fun (i, x) => (i, ρ x)).toList = (([S].map fun s => Value.agg (vs s)).zipIdx 0).map fun x => (x.2, x.1) := by simp [hx]
theorem parts3 {ρ : Operand → Value} {x y z : Operand} {S T U : List Nat} (hx : ρ x = .agg (vs S)) (hy : ρ y = .agg (vs T)) (hz : ρ z = .agg (vs U)) :
    (#[((0 : Nat), x), (1, y), (2, z)].map fun (i, x) => (i, ρ x)).toList = (([S, T, U].map fun s => Value.agg (vs s)).zipIdx 0).map fun x => (x.2, x.1) := by simp [hx, hy, hz]
theorem bsl1 {ops : Array Oper} {rest : List Oper} {o : Oper} {a : Act} {w : World} {Q : Exit → Act → World → Prop} {x : Operand} {S : List Nat} (hgd : o.guard = none) (ho : o.op = .buildSlice 25 1 #[(0, x)]) (hx : a.eval x = .agg (vs S)) (h33 : S.length = 33)
    (h : wpList Try.prog ops Q rest (a.put o.dst (.slice (some ⟨w.heap.size, 0, none⟩) 1 1)) (w.alloc (.cells (vs S) 31))) : wpList Try.prog ops Q (o :: rest) a w := by
  refine bsl [S] (by simpa using h33) (by simp) (by simp) hgd _ ho rfl (parts1 hx) ?_
  rw [show [S].flatten = S from by simp]
  exact h
/-- a row of the call's own, of these shares -/
def RS (w : World) (B : Nat) (A : Option Addr) (n cap : Nat) (l : List (List Nat)) : Prop := l.length = n ∧ (∀ s ∈ l, s.length = 33 ∧ Gf.Bytes s) ∧ w.ownsRow B 31 33 (.slice A n cap) n (vl l.flatten)
theorem RS.nil (w : World) (B : Nat) : RS w B none 0 0 [] := ⟨rfl, (fun _ hy => nomatch hy), w.ownsRow_nil B 31 33⟩
theorem RS.form {w : World} {B : Nat} {A : Option Addr} {n cap : Nat} {l : List (List Nat)} (h : RS w B A n cap l) : (A = none ∧ n = 0) ∨ ∃ g, A = some ⟨g, 0, none⟩ ∧ B ≤ g ∧ g < w.heap.size := by
  rcases h.2.2.2 with ⟨h1, h2⟩ | ⟨g, c, cur, h1, h2, h3, _⟩
  · injection h1 with h1 _ _
    exact .inl ⟨h1, h2⟩
  · injection h1 with h1 _ _
    exact .inr ⟨g, h1, h2, lt_of_block h3⟩
theorem RS.ss {w : World} {B : Nat} {A : Option Addr} {n cap : Nat} {l : List (List Nat)} (h : RS w B A n cap l) : Ss w A n l := by
  refine ⟨h.1, h.2.1, fun h0 => ?_⟩
  rcases h.2.2.2 with ⟨_, h2⟩ | ⟨g, c, cur, h1, h2, h3, _, _, hcs, ht⟩
  · omega
  · injection h1 with h1 _ _
    refine ⟨g, 0, h1, fun j v hj => ?_⟩
    rw [← ht] at hj
    have hlt : j < n * 33 := by
      have := (List.getElem?_eq_some_iff.1 hj).1
      rw [List.length_take] at this
      omega
    rw [List.getElem?_take, if_pos hlt] at hj
    rw [Nat.zero_add, cell_of_row w g j cur 31 (0, 0) h3]
    simpa using hj
theorem RS.cap {w : World} {B : Nat} {A : Option Addr} {n cap : Nat} {l : List (List Nat)} (h : RS w B A n cap l) : n ≤ cap := by
  rcases h.2.2.2 with ⟨h1, h2⟩ | ⟨g, c, cur, h1, h2, h3, h4, _⟩
  · omega
  · injection h1 with _ _ h1
    omega
theorem RS.below {w w' : World} {B : Nat} {A : Option Addr} {n cap : Nat} {l : List (List Nat)} (h : RS w B A n cap l) (hb : Below w.heap.size w w') : RS w' B A n cap l := by
  refine ⟨h.1, h.2.1, h.2.2.1, ?_⟩
  rcases h.2.2.2 with h' | ⟨g, c, cur, h1, h2, h3, h4⟩
  · exact .inl h'
  · exact .inr ⟨g, c, cur, h1, h2, (hb.block g (lt_of_block h3)).trans h3, h4⟩
theorem RS.belowB {w w' : World} {B C : Nat} {A : Option Addr} {n cap : Nat} {l : List (List Nat)} (h : RS w B A n cap l) (hb : Below C w w') (hC : w.heap.size ≤ C) : RS w' B A n cap l := h.below (hb.mono hC)
/-- one share more -/
theorem app_share {w : World} {ops : Array Oper} {rest : List Oper} {o : Oper} {a : Act} {Q : Exit → Act → World → Prop} (hgd : o.guard = none) (s x : Operand)
    (ho : o.op = .call { callee := .builtin .append, args := #[s, x], argTypes := #[25, 25] })
    (B : Nat) (A : Option Addr) (n cap : Nat) (l : List (List Nat)) (hs : a.eval s = .slice A n cap) (hr : RS w B A n cap l)
    (g1 c : Nat) (y : List Nat) (hx : a.eval x = .slice (some ⟨g1, 0, none⟩) 1 c) (hy : Rg w g1 0 y) (hyl : y.length = 33) (hyb : Gf.Bytes y) (hn : n ≤ 1000) (hB : B ≤ w.heap.size) (H : Nat) (hH : w.heap.size = H)
    (h : ∀ g cap' w', RS w' B (some ⟨g, 0, none⟩) (n + 1) cap' (l ++ [y]) → Below B w w' →
      wpList Try.prog ops Q rest (a.put o.dst (.slice (some ⟨g, 0, none⟩) (n + 1) cap')) w') : wpList Try.prog ops Q (o :: rest) a w := by
  obtain ⟨i0, z, hi, hz0, hz1, hz2, hzs⟩ := info34p
  refine wpList_append_lies w hgd s x 25 ho B 31 i0 z 33 33 Try.underlying25 hi hz0 hz1 hz2 hzs (by decide) _ n (vl l.flatten) hs hr.2.2 ⟨g1, 0, none⟩ 1 c (vl y) hx (by rw [vl_length, hyl]) ?_ (vl_one y) (by omega)
    (by unfold maxLen; omega) (by omega) hB H hH ?_
  · intro j u hu
    have := hy j u hu
    rw [Nat.zero_add] at this
    rw [Addr.add_mid, Nat.zero_add]
    exact this
  · intro g cap' w' h1 h2 h3 _
    refine h g cap' w' ⟨by simp [hr.1], ?_, ?_⟩ ?_
    · intro t ht
      rcases List.mem_append.1 ht with ht | ht
      · exact hr.2.1 t ht
      · simp at ht; subst ht; exact ⟨hyl, hyb⟩
    · rw [List.flatten_append, vl_append]
      simpa using h1
    · refine (Below.refl B w).grown h2 hB fun k hk => ?_
      rcases hr.form with ⟨rfl, _⟩ | ⟨g', rfl, hg', _⟩
      · simp [Value.ownBlock] at hk
      · simp [Value.ownBlock] at hk
        omega
end Go.Proofs.Ytkilphanbookkaa
