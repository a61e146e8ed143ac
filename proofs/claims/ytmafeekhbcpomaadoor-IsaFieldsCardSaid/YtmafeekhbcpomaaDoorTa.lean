/-
  THE WALK of the code's Text.
-/
import Derived.Test.YtmafeekhbcpomaaDoorTx
import Derived.Test.YtmafeekhbcpomaaDoorDe
import Derived.RegionTactic
import Derived.BigRegion
import Derived.Deep.RegionHeld3
namespace Go.Proofs.YtmafeekhbcpomaaDoor
open Go.RowKit
/-- an operation's name -/
def name (op : Nat) : List UInt8 := ([[], [97, 100, 100], [115, 117, 98], [109, 117, 108], [100, 105, 118], [114, 101, 109], [97, 110, 100], [111, 114], [120, 111, 114], [115, 104, 108], [115, 104, 114], [115, 97, 114], [115, 108, 116], [115, 108, 116, 117], [97, 100, 100, 105], [97, 110, 100, 105], [111, 114, 105], [120, 111, 114, 105], [115, 108, 116, 105], [108, 117, 105], [108, 119], [108, 98], [108, 98, 117], [115, 119], [115, 98], [98, 101, 113], [98, 110, 101], [98, 108, 116], [98, 108, 116, 117], [106, 97, 108], [106, 97, 108, 114], [115, 121, 115]] : List (List UInt8)).getD op []
theorem name_len : ∀ op, op < 32 → (name op).length ≤ 4 := by decide +kernel
/-- the program's tables -/
structure Tab (w : World) : Prop where
  names : ∀ i, i < 32 → w.cell? ⟨0, i, none⟩ = some (.string (st (name i)))
  pow : Lib.TabIs Tryd.prog w "internal/strconv.uint64pow10" .u64 Lib.pow10Tab
theorem gPow : Tryd.prog.globalNamed "internal/strconv.uint64pow10" = some 1 := by kernel_rfl
theorem Tab.lt {w : World} (h : Tab w) : 1 < w.heap.size := World.block_lt_of_cell? _ _ (h.pow.cell gPow 0 (by decide))
theorem Tab.below {w w' : World} (h : Tab w) (hx : Below w.heap.size w w') : Tab w' := by
  have hl := h.lt
  refine ⟨fun i hi => (hx.cell (p := ⟨0, i, none⟩) (by show 0 < _; omega)).trans (h.names i hi), ?_⟩
  have := h.pow
  unfold Lib.TabIs World.var? at this ⊢
  rw [gPow] at this ⊢
  simp only [Option.bind_some] at this ⊢
  rw [hx.block 1 hl]
  exact this
/-- an instruction's line -/
def body (x : Is.Ins) : List UInt8 :=
  if Is.hasC x.op then jn [rt x.a, rt x.b, rt x.c]
  else if (20 ≤ x.op ∧ x.op ≤ 24) ∨ x.op = 30 then jn [rt x.a, Lib.itoa x.imm ++ 40 :: (rt x.b ++ [41])]
  else if Is.hasB x.op then jn [rt x.a, rt x.b, Lib.itoa x.imm]
  else if Is.hasA x.op then jn [rt x.a, Lib.itoa x.imm]
  else jn [Lib.itoa x.imm]
def txt (x : Is.Ins) : List UInt8 := if (Is.enc x).2 ≠ 0 then [] else name x.op ++ 32 :: body x
theorem itoa_any (n : Int) (w : World) (h0 : -1000000 < n) (h1 : n < 1000000) (hT : Tab w) :
    Calls Tryd.prog 30 #[.int .i64 n] w fun e w' => e = .returned (.string (st (Lib.itoa n))) ∧ Below w.heap.size w w' :=
  (Tryd.strconv_Itoa n (by omega) (by omega) w hT.pow).mono fun e w' ⟨he, k, os, hw⟩ => ⟨he, hw ▸ below_itoa w k os⟩
theorem At.drew {W : World} {g : Nat} {x : Is.Ins} (h : At W g x) : At W.drew g x := ⟨h.c0, h.c1, h.c2, h.c3, h.c4⟩
theorem At.four {W : World} {g : Nat} {x : Is.Ins} (h : At W g x) : W.cell? ⟨g, 1, none⟩ = some (.int .u8 (x.a : Nat)) ∧ W.cell? ⟨g, 2, none⟩ = some (.int .u8 (x.b : Nat)) ∧ W.cell? ⟨g, 3, none⟩ = some (.int .u8 (x.c : Nat)) := ⟨h.c1, h.c2, h.c3⟩
theorem cells_new (w : World) (cs : Array Value) (t : TypeId) (j : Nat) (v : Value) (h : cs[j]? = some v) : (w.alloc (Obj.cells cs t)).cell? ⟨w.heap.size, j, none⟩ = some v := by
  have hh : (w.alloc (Obj.cells cs t)).heap[w.heap.size]? = some (.cells cs t (0, 0)) := by
    show (w.heap.push _)[w.heap.size]? = _
    simp
  unfold World.cell?
  rw [hh]
  exact h
theorem line3 (nm a b c : List UInt8) (w : World) (t : TypeId) (hn : nm.length ≤ 40) (ha : a.length ≤ 40) (hb : b.length ≤ 40) (hc : c.length ≤ 40) :
    Calls Tryd.prog 31 #[.string (st nm), .slice (some ⟨w.heap.size, 0, none⟩) 3 3] (w.alloc (Obj.cells #[.string (st a), .string (st b), .string (st c)] t)).drew fun e w' => e = .returned (.string (st (nm ++ 32 :: jn [a, b, c]))) ∧ Below w.heap.size w w' := by
  refine (line_any nm [a, b, c] w.heap.size (w.alloc (Obj.cells #[.string (st a), .string (st b), .string (st c)] t)).drew (fun j x hx => ?_) (by simp) (by simp) (by simp; omega) hn).mono fun e w' ⟨he, hw⟩ => ⟨he, ((grow w _).drew).trans (hw.mono (by show w.heap.size ≤ (w.heap.push _).size; simp))⟩
  refine cells_new w _ t j _ ?_
  match j, hx with
  | 0, hx => simp at hx; subst hx; rfl
  | 1, hx => simp at hx; subst hx; rfl
  | 2, hx => simp at hx; subst hx; rfl
  | j + 3, hx => simp at hx
theorem line2 (nm a b : List UInt8) (w : World) (t : TypeId) (hn : nm.length ≤ 40) (ha : a.length ≤ 40) (hb : b.length ≤ 40) :
    Calls Tryd.prog 31 #[.string (st nm), .slice (some ⟨w.heap.size, 0, none⟩) 2 2] (w.alloc (Obj.cells #[.string (st a), .string (st b)] t)) fun e w' => e = .returned (.string (st (nm ++ 32 :: jn [a, b]))) ∧ Below w.heap.size w w' := by
  refine (line_any nm [a, b] w.heap.size (w.alloc (Obj.cells #[.string (st a), .string (st b)] t)) (fun j x hx => ?_) (by simp) (by simp) (by simp; omega) hn).mono fun e w' ⟨he, hw⟩ => ⟨he, (grow w _).trans (hw.mono (by simp))⟩
  refine cells_new w _ t j _ ?_
  match j, hx with
  | 0, hx => simp at hx; subst hx; rfl
  | 1, hx => simp at hx; subst hx; rfl
  | j + 2, hx => simp at hx
theorem line2d (nm a b : List UInt8) (w : World) (t : TypeId) (hn : nm.length ≤ 40) (ha : a.length ≤ 40) (hb : b.length ≤ 40) :
    Calls Tryd.prog 31 #[.string (st nm), .slice (some ⟨w.heap.size, 0, none⟩) 2 2] (w.alloc (Obj.cells #[.string (st a), .string (st b)] t)).drew fun e w' => e = .returned (.string (st (nm ++ 32 :: jn [a, b]))) ∧ Below w.heap.size w w' := by
  refine (line_any nm [a, b] w.heap.size (w.alloc (Obj.cells #[.string (st a), .string (st b)] t)).drew (fun j x hx => ?_) (by simp) (by simp) (by simp; omega) hn).mono fun e w' ⟨he, hw⟩ => ⟨he, ((grow w _).drew).trans (hw.mono (by show w.heap.size ≤ (w.heap.push _).size; simp))⟩
  refine cells_new w _ t j _ ?_
  match j, hx with
  | 0, hx => simp at hx; subst hx; rfl
  | 1, hx => simp at hx; subst hx; rfl
  | j + 2, hx => simp at hx
theorem line1 (nm a : List UInt8) (w : World) (t : TypeId) (hn : nm.length ≤ 40) (ha : a.length ≤ 40) :
    Calls Tryd.prog 31 #[.string (st nm), .slice (some ⟨w.heap.size, 0, none⟩) 1 1] (w.alloc (Obj.cells #[.string (st a)] t)) fun e w' => e = .returned (.string (st (nm ++ 32 :: jn [a]))) ∧ Below w.heap.size w w' := by
  refine (line_any nm [a] w.heap.size (w.alloc (Obj.cells #[.string (st a)] t)) (fun j x hx => ?_) (by simp) (by simp) (by simp; omega) hn).mono fun e w' ⟨he, hw⟩ => ⟨he, (grow w _).trans (hw.mono (by simp))⟩
  refine cells_new w _ t j _ ?_
  match j, hx with
  | 0, hx => simp at hx; subst hx; rfl
  | j + 1, hx => simp at hx
theorem At.two {W : World} {g : Nat} {x : Is.Ins} (h : At W g x) : W.cell? ⟨g, 1, none⟩ = some (.int .u8 (x.a : Nat)) ∧ W.cell? ⟨g, 2, none⟩ = some (.int .u8 (x.b : Nat)) := ⟨h.c1, h.c2⟩
end Go.Proofs.YtmafeekhbcpomaaDoor
