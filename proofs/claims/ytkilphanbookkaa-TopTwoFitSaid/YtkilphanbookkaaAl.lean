/-
  THE WALK of the chapter's examples: they come out.
-/
import Derived.Test.YtkilphanbookkaaHd
namespace Go.Proofs.Ytkilphanbookkaa
open Go.RowKit
set_option linter.unusedVariables false
set_option linter.unusedSimpArgs false
def z64 : ByteArray := bs (zs 64)
def n64 : ByteArray := bs (1 :: zs 63)
def k1 : List Nat := 1 :: zs 31
theorem built23 : Try.prog.built 23 [(0, .int .u8 1)] = some (vs (k1)) := by kernel_rfl
theorem built23z : Try.prog.built 23 [] = some (vs (zs 32)) := by kernel_rfl
theorem bld23 {ops : Array Oper} {rest : List Oper} {o : Oper} {a : Act} {w : World} {Q : Exit → Act → World → Prop} (hgd : o.guard = none) (ho : o.op = .build 23 #[(0, .const (.int .u8 1))])
    (h : wpList Try.prog ops Q rest (a.put o.dst (.agg (vs (k1)))) w) : wpList Try.prog ops Q (o :: rest) a w := by
  have e : (#[((0 : Nat), Operand.const (.int .u8 1))].map fun (i, x) => (i, a.eval x)).toList = [(0, Value.int .u8 1)] := by simp [Act.eval]
  refine wpList_build hgd 23 _ ho (by rw [e, built23]; rfl) ?_
  rw [e, built23]
  exact h
theorem cat64 : (⟨#[1]⟩ : ByteArray) ++ z64.extract 1 64 = n64 := by decide +kernel
theorem n64_size : n64.size = 64 := by decide +kernel
theorem al0 : ∀ i, i < 3 → Gf.nth ((Sx.shrs (k1) (toN n64) 3).flatten) (i * 33 + 1) = [0, 3, 2].getD i 0 ∧ Gf.nth ((Sx.shrs (k1) (toN n64) 3).flatten) (i * 33) = i + 1 := by decide +kernel
end Go.Proofs.Ytkilphanbookkaa
