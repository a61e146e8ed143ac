/-
  THE WALK of the chapter's examples: they come out.
-/
import Derived.Test.YtmnenjgipkopdaaHd
namespace Go.Proofs.Ytmnenjgipkopdaa
open Go.RowKit
set_option linter.unusedVariables false
set_option linter.unusedSimpArgs false
def z64 : ByteArray := bs (zs 64)
def n64 : ByteArray := bs (1 :: zs 63)
theorem none_any (w : World) : Calls Try.prog 18 #[] w fun e w' => e = .returned (.string z64) ∧ Below w.heap.size w w' := by
  have hmk : ∀ w, (Instr.makeSlice 38 (.int .i64 64) (.int .i64 64)).run Try.prog w = .ok (.slice (some ⟨w.heap.size, 0, none⟩) 64 64) (w.alloc (.cells (vs (zs 64)) 5)) := fun w => mk38 64 (by omega) w
  have hcv := conv_bs (w.alloc (.cells (vs (zs 64)) 5)) w.heap.size 0 (zs 64) 64 64 (zs_length _) (Own.new _ _ _).rg
  go_enter Try.func18, Try.ntmps18
  go_wp2_with fail
  go_ret
  exact ⟨rfl, (Below.refl _ _).alloc (Nat.le_refl _) _⟩
def k1 : List Nat := 1 :: zs 31
theorem built23 : Try.prog.built 23 [(0, .int .u8 1)] = some (vs (k1)) := by kernel_rfl
theorem built23z : Try.prog.built 23 [] = some (vs (zs 32)) := by kernel_rfl
theorem bld23 {ops : Array Oper} {rest : List Oper} {o : Oper} {a : Act} {w : World} {Q : Exit → Act → World → Prop} (hgd : o.guard = none) (ho : o.op = .build 23 #[(0, .const (.int .u8 1))])
    (h : wpList Try.prog ops Q rest (a.put o.dst (.agg (vs (k1)))) w) : wpList Try.prog ops Q (o :: rest) a w := by
  have e : (#[((0 : Nat), Operand.const (.int .u8 1))].map fun (i, x) => (i, a.eval x)).toList = [(0, Value.int .u8 1)] := by simp [Act.eval]
  refine wpList_build hgd 23 _ ho (by rw [e, built23]; rfl) ?_
  rw [e, built23]
  exact h
theorem cat64 : (⟨#[1]⟩ : ByteArray) ++ z64.extract 1 64 = n64 := by decide +kernel
theorem n64_size : n64.size = 64 := by decide +kernel
theorem al0 : ∀ i, i < 3 → Gf.nth ((Sx.shrs (k1) (toN n64) 3).flatten) (i * 33 + 1) = [0, 3, 2].getD i 0 ∧ Gf.nth ((Sx.shrs (k1) (toN n64) 3).flatten) (i * 33) = i + 1 := by decide +kernel
set_option maxRecDepth 100000 in
set_option maxHeartbeats 2000000 in
theorem alive_any (w : World) : Calls Try.prog 10 #[] w fun e w' => e = .returned (.bool true) ∧ Below w.heap.size w w' := by
  have hsz : z64.size = 64 := by decide +kernel
  have hcat := cat64
  have hk : Gf.Bytes k1 := fun x hx => by
    unfold k1 at hx
    rcases List.mem_cons.1 hx with rfl | hx
    · omega
    · have := List.eq_of_mem_replicate hx; omega
  have hsp := fun w => ssplit_ok (k1) n64 3 hk (by unfold k1; rw [List.length_cons, zs_length]) n64_size (by omega) (by omega) w
  have hn := none_any w
  generalize z64 = Z at *
  have HN := Lib.hid n64_size
  have hA := al0
  generalize n64 = N at *
  have H0 := hA 0 (by omega)
  have H1 := hA 1 (by omega)
  have H2 := hA 2 (by omega)
  have HA := Lib.hid (And.intro H0 (And.intro H1 H2))
  clear H0 H1 H2 hA
  go_enter Try.func10, Try.ntmps10
  go_wp2_with (refine bld23 rfl rfl ?_)
  refine hn.mono ?_
  rintro e w1 ⟨rfl, hb1⟩
  go_wp2_with fail
  refine (hsp w1).mono ?_
  rintro e w2 ⟨⟨A, cap, rfl, hs, hcap⟩, hb2⟩
  obtain ⟨b, o, rfl, hr⟩ := hs.2.2 (by omega)
  have hfl : (Sx.shrs k1 (toN N) 3).flatten.length = 99 := by rw [flat_length _ (shrs_33 _ _ _), Sx.shrs_length]
  have c0 := hr.cell (i := 1) (by omega)
  have c1 := hr.cell (i := 34) (by omega)
  have c2 := hr.cell (i := 67) (by omega)
  have c3 := hr.cell (i := 66) (by omega)
  rw [show Gf.nth (Sx.shrs k1 (toN N) 3).flatten 1 = 0 from HA.out.1.1] at c0
  rw [show Gf.nth (Sx.shrs k1 (toN N) 3).flatten 34 = 3 from HA.out.2.1.1] at c1
  rw [show Gf.nth (Sx.shrs k1 (toN N) 3).flatten 67 = 2 from HA.out.2.2.1] at c2
  rw [show Gf.nth (Sx.shrs k1 (toN N) 3).flatten 66 = 3 from HA.out.2.2.2] at c3
  have bW := hb1.trans (hb2.mono hb1.size)
  clear hb1 hb2 hr hs hsp hn hfl hcap
  go_wp2_with fail
  go_ret
  exact ⟨rfl, bW⟩
end Go.Proofs.Ytmnenjgipkopdaa
