/-
  The fields of an inode handed on: the row of pointers and sizes, and the function over it.
-/
import Derived.Test.YtambgmjiafcokaaDoorBs
import Derived.Test.YtambgmjiafcokaaDoorIm
import Derived.RangeFuncNested
import Derived.RangeFuncBound
import Derived.RangeFuncCalls
import Derived.RangeFuncLeaves
import Derived.RangeFuncBox
import Derived.Shelf.Abstract
import Derived.OwnWalkIn
import Derived.TacticsInMore
import Derived.LoopNIn
import Derived.LoopIn
import Derived.Maps.AppendAt
import Derived.Deep.RegionLaw
import Derived.Deep.AppendLies
namespace Go.Proofs.YtambgmjiafcokaaDoor
set_option linter.unusedVariables false
set_option maxRecDepth 100000
set_option linter.unusedSimpArgs false
open Go.RowKit Go.Shelf
attribute [local go_sem] Oper.semAt_some
namespace Dw
open _root_.Go.Proofs.YtambgmjiafcokaaDoor.Nm hiding Own
theorem info54 : (Tryd.prog.info? 54).map (fun i => (i.zero, i.size, i.bytes)) = some (some (.agg #[.pointer none, .int .i64 0]), 2, 16) := by kernel_rfl
def fpv (g q : Nat) : List Value := [.pointer (some ⟨g, Ni.cl q, none⟩), .int .i64 (Ni.sz q : Nat)]
def ffs (g k m : Nat) : List Value := (List.range' k m).flatMap (fpv g)
theorem ffs_app (g k m : Nat) : ffs g 0 k ++ ffs g k m = ffs g 0 (k + m) := by
  unfold ffs
  rw [← List.flatMap_append]
  congr 1
  have := List.range'_append_1 (s := 0) (m := k) (n := m)
  rw [Nat.zero_add] at this
  exact this
theorem fpv_length (g : Nat) (l : List Nat) : (l.flatMap (fpv g)).length = l.length * 2 := by
  induction l with
  | nil => rfl
  | cons x l ih => rw [List.flatMap_cons, List.length_append, ih]; simp [fpv]; omega
theorem ffs_length (g k m : Nat) : (ffs g k m).length = m * 2 := by unfold ffs; rw [fpv_length, List.length_range']
theorem ffs_one (g k m : Nat) : ∀ u ∈ ffs g k m, u.oneCell' = true := fun u hu => by
  simp only [ffs, List.mem_flatMap] at hu
  obtain ⟨x, _, hx⟩ := hu
  simp [fpv] at hx
  rcases hx with rfl | rfl <;> rfl
/-- a row of the call's own of fields -/
def RF (w : World) (B : Nat) (A : Option Addr) (n cap g : Nat) : Prop := w.ownsRow B 54 2 (.slice A n cap) n (ffs g 0 n)
/-- some fields more, at a step of a region that draws -/
theorem step_app_f {w : World} {ops : Array Oper} {o : Oper} {a : Act} {K : Act → World → Prop} {Q : Exit → Act → World → Prop} {E : Prop} (hgd : o.guard = none) (s x : Operand)
    (ho : o.op = .call { callee := .builtin .append, args := #[s, x], argTypes := #[70, 70] })
    (B : Nat) (A : Option Addr) (n cap g m : Nat) (hs : a.eval s = .slice A n cap) (hr : RF w B A n cap g)
    (g1 c : Nat) (hx : a.eval x = .slice (some ⟨g1, 0, none⟩) m c) (hy : ∀ j u, (ffs g n m)[j]? = some u → w.cell? ⟨g1, j, none⟩ = some u) (hm : 0 < m) (hn : n + m ≤ 100000) (hB : B ≤ w.heap.size) (H : Nat) (hH : w.heap.size = H)
    (h : ∀ r cap' w', RF w' B (some ⟨r, 0, none⟩) (n + m) cap' g → w.grownBy w' (Value.slice A n cap).ownBlock → ((Value.slice A n cap).ownBlock = some r ∨ r = H) → Below B w w' →
      K (a.put o.dst (.slice (some ⟨r, 0, none⟩) (n + m) cap')) w') : if Region.wanted o (yielded ops a.tmps) = true then Oper.wp Tryd.prog o a w K Q else E := by
  obtain ⟨i0, hi, hz0, hz1, hz2⟩ := info_parts info54
  refine step_append_lies w hgd s x 70 ho B 54 i0 _ 2 16 Tryd.underlying70 hi hz0 hz1 hz2 rfl (by decide) _ n (ffs g 0 n) hs hr ⟨g1, 0, none⟩ m c (ffs g n m) hx (ffs_length _ _ _) ?_ (ffs_one _ _ _) hm
    (by unfold maxLen; omega) (by omega) hB H hH ?_
  · intro j u hu
    rw [addr_add, Nat.zero_add]
    exact hy j u hu
  · intro r cap' w' h1 h2 h3 _
    refine h r cap' w' (by unfold RF; rw [← ffs_app]; exact h1) h2 h3 ?_
    refine (Below.refl B w).grown h2 hB fun k hk => ?_
    exact (hr.lt k hk).1
theorem one_f {g k : Nat} (hk : k < 6) : ∀ (j : Nat) (u : Value), (ffs g (4 + k) 1)[j]? = some u → (#[.pointer (some ⟨g, 4 + k, none⟩), .int .i64 2] : Array Value)[j]? = some u := fun j u hu => by
  have e1 : Ni.cl (4 + k) = 4 + k := by unfold Ni.cl; rw [if_neg (by omega), if_neg (by omega)]
  have e2 : Ni.sz (4 + k) = 2 := by unfold Ni.sz; rw [if_neg (by omega), if_neg (by omega)]
  have e : ffs g (4 + k) 1 = [.pointer (some ⟨g, 4 + k, none⟩), .int .i64 2] := by
    show [Value.pointer (some ⟨g, Ni.cl (4 + k), none⟩), .int .i64 (Ni.sz (4 + k) : Nat)] = _
    rw [e1, e2]; rfl
  rw [e] at hu
  rw [List.getElem?_toArray]
  exact hu
theorem two_f {g : Nat} : ∀ (j : Nat) (u : Value), (ffs g 10 2)[j]? = some u → (#[.pointer (some ⟨g, 10, none⟩), .int .i64 2, .pointer (some ⟨g, 11, none⟩), .int .i64 2] : Array Value)[j]? = some u := fun j u hu => by
  rw [List.getElem?_toArray]
  exact hu
theorem ownb {g n c : Nat} : (Value.slice (some ⟨g, 0, none⟩) n c).ownBlock = some g := rfl
end Dw
end Go.Proofs.YtambgmjiafcokaaDoor
