/-
  An inode as cells: what lies in its box, a number read, a number set; loads and stores of the whole.
-/
import Derived.Test.YtambgmjiafcokaaDoorIh
import Derived.Test.YtambgmjiafcokaaDoorIj
namespace Go.Proofs.YtambgmjiafcokaaDoor
set_option linter.unusedVariables false
set_option maxRecDepth 100000
set_option linter.unusedSimpArgs false
open Go.RowKit
namespace Dw
open _root_.Go.Proofs.YtambgmjiafcokaaDoor.Nm
/-- the cells of an inode -/
def ic (X : Nat → Int) : Array Value := #[.int .i64 (X 0), .int .i64 (X 2), .int .i64 (X 1), .int .i64 (X 3), .int .i64 (X 4), .int .i64 (X 5), .int .i64 (X 6), .int .i64 (X 7), .int .i64 (X 8), .int .i64 (X 9), .int .i64 (X 10), .int .i64 (X 11)]
def zX : Nat → Int := fun _ => 0
def upd (X : Nat → Int) (q : Nat) (v : Int) : Nat → Int := fun p => if p = q then v else X p
theorem ic_size (X : Nat → Int) : (ic X).size = 12 := rfl
theorem ic_get (X : Nat → Int) : ∀ q, q < 12 → (ic X)[Ni.cl q]? = some (.int .i64 (X q))
  | 0, _ => rfl | 1, _ => rfl | 2, _ => rfl | 3, _ => rfl | 4, _ => rfl | 5, _ => rfl | 6, _ => rfl | 7, _ => rfl | 8, _ => rfl | 9, _ => rfl | 10, _ => rfl | 11, _ => rfl
  | n + 12, h => by omega
theorem ic_set (X : Nat → Int) (v : Int) : ∀ q, q < 12 → (ic X).setIfInBounds (Ni.cl q) (.int .i64 v) = ic (upd X q v)
  | 0, _ => rfl | 1, _ => rfl | 2, _ => rfl | 3, _ => rfl | 4, _ => rfl | 5, _ => rfl | 6, _ => rfl | 7, _ => rfl | 8, _ => rfl | 9, _ => rfl | 10, _ => rfl | 11, _ => rfl
  | n + 12, h => by omega
theorem ic_congr {X Y : Nat → Int} (h : ∀ q, q < 12 → X q = Y q) : ic X = ic Y := by
  unfold ic
  rw [h 0 (by omega), h 1 (by omega), h 2 (by omega), h 3 (by omega), h 4 (by omega), h 5 (by omega), h 6 (by omega), h 7 (by omega), h 8 (by omega), h 9 (by omega), h 10 (by omega), h 11 (by omega)]
theorem ic_inj {X Y : Nat → Int} (h : ic X = ic Y) : ∀ q, q < 12 → X q = Y q := fun q hq => by
  have e1 := ic_get X q hq
  rw [h, ic_get Y q hq] at e1
  injection e1 with e1
  injection e1 with _ e1
  exact e1.symm
theorem ic_one (X : Nat → Int) : (ic X).all (·.oneCell') = true := by
  rw [Array.all_eq_true_iff_forall_mem]
  intro v hv
  simp [ic] at hv
  rcases hv with rfl | rfl | rfl | rfl | rfl | rfl | rfl | rfl | rfl | rfl | rfl | rfl <;> rfl
theorem info27 : (Tryd.prog.info? 27).map (·.size) = some 12 := by kernel_rfl
theorem ld27 {ops : Array Oper} {rest : List Oper} {o : Oper} {a : Act} {w : World} {Q : Exit → Act → World → Prop} {x : Operand} {g : Nat} {X : Nat → Int}
    (hgd : o.guard = none) (ho : o.op = .load 27 x) (hx : a.eval x = .pointer (some ⟨g, 0, none⟩)) (hg : Nm.Own w g 27 (ic X))
    (h : wpList Tryd.prog ops Q rest (a.put o.dst (.agg (ic X))) w) : wpList Tryd.prog ops Q (o :: rest) a w :=
  wpList_load_row hgd 27 x ho g hx 27 _ (0, 0) _ hg Tryd.underlying27 rfl (by rw [ic_size]; exact info27) h
theorem sto27 {ops : Array Oper} {rest : List Oper} {o : Oper} {a : Act} {w : World} {Q : Exit → Act → World → Prop} {x y : Operand} {g : Nat} {X Y : Nat → Int}
    (hgd : o.guard = none) (ho : o.op = .store 27 x y) (hx : a.eval x = .pointer (some ⟨g, 0, none⟩)) (hy : a.eval y = .agg (ic X)) (hg : Nm.Own w g 27 (ic Y))
    (h : ∀ w', Nm.Own w' g 27 (ic X) → St g w w' → wpList Tryd.prog ops Q rest (a.put o.dst undef) w') : wpList Tryd.prog ops Q (o :: rest) a w :=
  wpList_store_row hgd 27 x y ho g _ hx hy 27 (ic Y) hg (by rw [ic_size]; exact info27) (by rw [ic_size, ic_size]) (ic_one X) (h _ (setRow_heap w g (ic Y) _ 27 (0, 0) hg) (St.row w g _))
/-- a number is in its bytes' room -/
def InR (X : Nat → Int) (q : Nat) : Prop := 0 ≤ X q ∧ X q < ((256 ^ Ni.sz q : Nat) : Int)
end Dw
end Go.Proofs.YtambgmjiafcokaaDoor
