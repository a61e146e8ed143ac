/-
  THE WALK of a digest, of the document's answer.
-/
import Derived.Test.YtoggibooinhomaaDoorRk
import Derived.Test.YtoggibooinhomaaDoorDg
namespace Go.Proofs.YtoggibooinhomaaDoor
set_option linter.unusedVariables false
set_option linter.unusedSimpArgs false
open Go.RowKit
/-- the blocks of a call of the document's 'digest' -/
structure RgIs (w wr : World) (B : Nat) (H : List Nat) : Prop where
  h : Own wr B 54 (vs .u32 H)
  r : Own wr (B + 1) 34 (vs .u8 (List.replicate 32 0))
  b : Below B w wr
theorem RgIs.below {w wr w1 : World} {B : Nat} {H : List Nat} (o : RgIs w wr B H) (hx : Below wr.heap.size wr w1) : RgIs w w1 B H :=
  have := o.r.lt
  ⟨Below.own hx o.h (by omega), Below.own hx o.r (by omega), o.b.trans (hx.mono (by omega))⟩
theorem RgIs.row {w wr : World} {B : Nat} {H : List Nat} (o : RgIs w wr B H) (H' : List Nat) : RgIs w (wr.setRow B (vs .u32 H')) B H' :=
  ⟨o.h.row _, o.r.rowOther _ _ (by omega), below_row o.b (by omega) _⟩
theorem RgIs.drew {w wr : World} {B : Nat} {H : List Nat} (o : RgIs w wr B H) : RgIs w wr.drew B H := ⟨o.h, o.r, o.b.drew⟩
/-- a text's length, of a value -/
def lenV : Value → Nat
  | .string s => s.size
  | _ => 0
end Go.Proofs.YtoggibooinhomaaDoor
