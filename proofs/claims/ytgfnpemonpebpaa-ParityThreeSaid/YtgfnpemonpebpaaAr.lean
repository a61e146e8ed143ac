/-
  Laws for the walk: a new variable of zeros, a value built of its first byte.
-/
import Derived.Test.YtgfnpemonpebpaaCb
import Derived.Laws.MakeOwn
namespace Go.Proofs.Ytgfnpemonpebpaa
open Go.RowKit
set_option linter.unusedVariables false
set_option linter.unusedSimpArgs false
/-- so many zeros -/
def zs (n : Nat) : List Nat := List.replicate n 0
theorem zs_length (n : Nat) : (zs n).length = n := by simp [zs]
/-- a type of so many bytes: its zero -/
def ZT (ty : TypeId) (n : Nat) : Prop := ∀ w, (zeroValue ty).run Try.prog w = .ok (.agg (vs (zs n))) w
theorem alz {ty : TypeId} {n : Nat} (Z : ZT ty n) {ops : Array Oper} {rest : List Oper} {o : Oper} {a : Act} {w : World} {Q : Exit → Act → World → Prop} (hgd : o.guard = none) (ho : o.op = .alloc ty)
    (h : wpList Try.prog ops Q rest (a.put o.dst (.pointer (some ⟨w.heap.size, 0, none⟩))) (w.alloc (.cells (vs (zs n)) ty))) : wpList Try.prog ops Q (o :: rest) a w := by
  refine wpList_plain hgd fun K hK => ?_
  unfold Oper.wp execOp
  simp only [ho, Sem.run_bind, Instr.alloc, Z w, Result.andThen_ok, newVar, newRow, run_newObj_alloc, Sem.run_pure]
  exact hK _ _ h
/-- an array that is a value, at an index -/
theorem idxv {t e : TypeId} {n : Nat} (hu : Try.prog.underlying t = some (.array n e)) (he : Try.prog.plainKey e = true) (hc : Try.prog.cellsOf e = 1) {l : List Nat} (hl : l.length = n) {k : Nat} (hk : k < n) (w : World) :
    (Instr.index t (.agg (vs l)) (.int .i64 (k : Int))).run Try.prog w = .ok (.int .u8 (Gf.nth l k : Nat)) w := by
  have hp := run_part_plain (P := Try.prog) w he (xs := vs l) (off := k * 1) (by rw [Nat.mul_one]; exact vs_get (by omega))
  obtain ⟨i, hi⟩ : ∃ i, Try.prog.info? e = some i := by
    cases hq : Try.prog.underlying e with
    | none => simp [Program.plainKey, hq] at he
    | some d => exact info_of_underlying hq
  have hs := run_sizeOf (P := Try.prog) w hi
  unfold Instr.index
  simp only [asIntOf, Sem.run_bind, Sem.run_pure, Result.andThen_ok, run_underlying hu]
  rw [if_pos ⟨by omega, by omega⟩]
  simp only [Sem.run_bind, hs, Result.andThen_ok, hc, Int.toNat_natCast]
  exact hp
theorem made_zs (s n : Nat) (hs : 0 < s) : madeCells (vs (zs s)) n = vs (zs n) := by
  apply Array.ext_getElem?
  intro j
  by_cases hj : j < n
  · have hm : j % s < s := Nat.mod_lt _ hs
    have e1 : (vs (zs s))[j % s]? = some (.int .u8 0) := by simp [vs, vl, zs, hm]
    have e2 : (vs (zs n))[j]? = some (.int .u8 0) := by simp [vs, vl, zs, hj]
    have e3 : (vs (zs s))[j % s]! = .int .u8 0 := by
      rw [getElem!_def, e1]
    rw [e2]
    simp only [madeCells, Array.getElem?_map, Array.getElem?_range, if_pos hj, Option.map_some]
    rw [vs_size, zs_length, e3]
  · rw [Array.getElem?_eq_none (by simp [madeCells]; omega), Array.getElem?_eq_none (by rw [vs_size, zs_length]; omega)]
/-- a new row of elements of bytes -/
theorem mk_run {t e : TypeId} {s : Nat} (hs : 0 < s) {z : Value} (ht : Try.prog.underlying t = some (.slice e)) (hinfo : (Try.prog.info? e).map (fun i => (i.zero, i.size, i.bytes)) = some (some z, s, s)) (hz : z.cells = vs (zs s)) (n : Nat) (hn : n ≤ 1000000) (hs2 : s ≤ 1000000) (w : World) :
    (Instr.makeSlice t (.int .i64 (n : Int)) (.int .i64 (n : Int))).run Try.prog w = .ok (.slice (some ⟨w.heap.size, 0, none⟩) n n) (w.alloc (.cells (vs (zs (n * s))) e)) := by
  obtain ⟨i, hi, hzz⟩ := Option.map_eq_some_iff.1 hinfo
  simp only [Prod.mk.injEq] at hzz
  obtain ⟨h1, h2, h3⟩ := hzz
  have hb : (i.bytes : Int) * (n : Int) ≤ 281474976710656 := by
    rw [h3]
    have : s * n ≤ 1000000 * 1000000 := Nat.mul_le_mul hs2 hn
    have e : ((s : Int) * (n : Int)) = ((s * n : Nat) : Int) := by simp
    rw [e]
    omega
  have hr := run_make (P := Try.prog) w t e i z ht hi h1 .i64 .i64 n n (by omega) (Int.le_refl _) hb (by omega)
  simp only [Int.toNat_natCast] at hr
  rw [hr, hz, h2, made_zs s _ hs]
theorem info5 : (Try.prog.info? 5).map (fun i => (i.zero, i.size, i.bytes)) = some (some (.int .u8 0), 1, 1) := by kernel_rfl
theorem mk38 (n : Nat) (hn : n ≤ 1000000) (w : World) : (Instr.makeSlice 36 (.int .i64 (n : Int)) (.int .i64 (n : Int))).run Try.prog w = .ok (.slice (some ⟨w.heap.size, 0, none⟩) n n) (w.alloc (.cells (vs (zs n)) 5)) := by
  have h := mk_run (t := 36) (by omega) Try.underlying36 info5 rfl n hn (by omega) w
  rw [Nat.mul_one] at h
  exact h
end Go.Proofs.Ytgfnpemonpebpaa
