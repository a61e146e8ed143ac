/-
  Laws for the joining of shares: three as an array, one of it, a result in a cell beside a number.
-/
import Derived.Test.YtkilphanbookkaaHd
namespace Go.Proofs.Ytkilphanbookkaa
open Go.RowKit
set_option linter.unusedVariables false
set_option linter.unusedSimpArgs false
theorem z50 : ZT 41 99 := fun w => by kernel_rfl
theorem info34q : (Try.prog.info? 31).map (fun i => i.size) = some 33 := by kernel_rfl
theorem info50z : ∃ i z, Try.prog.info? 41 = some i ∧ i.zero = some z ∧ z.cells.size = 99 := by
  have h : (Try.prog.info? 41).map (fun i => i.zero) = some (some (.agg (vs (zs 99)))) := by kernel_rfl
  obtain ⟨i, hi, hz⟩ := Option.map_eq_some_iff.1 h
  exact ⟨i, _, hi, hz, (vs_size _).trans (zs_length _)⟩
theorem run_build50 {S T U : List Nat} (hS : S.length = 33) (hT : T.length = 33) (hU : U.length = 33) (parts : Array (Nat × Value)) (hp : parts.toList = (([S, T, U].map fun s => Value.agg (vs s)).zipIdx 0).map fun x => (x.2, x.1)) (w : World) :
    (Instr.build 41 parts).run Try.prog w = .ok (.agg (vs [S, T, U].flatten)) w := by
  obtain ⟨i, z, hi, hz, hzs⟩ := info50z
  obtain ⟨j, hj, hjs⟩ := Option.map_eq_some_iff.1 info34q
  have h := Go.Great.fill_whole (s := 33) (by omega) ([S, T, U].map fun s => Value.agg (vs s)) z.cells (fun v hv => by
    obtain ⟨s, hs, rfl⟩ := List.mem_map.1 hv
    have : s.length = 33 := by
      simp at hs
      rcases hs with rfl | rfl | rfl <;> assumption
    exact (vs_size s).trans this) (by simp [hzs])
  rw [← hp, cells_flat] at h
  have hi' : Try.prog.info? 41 = some i := hi
  simp [Instr.build, run_underlying Try.underlying41, sizeOf, typeInfo, zeroValue, hi, hz, hj, hjs, h]
  rfl
theorem exec_build50 {S T U : List Nat} (hS : S.length = 33) (hT : T.length = 33) (hU : U.length = 33) {ρ : Operand → Value} {o : Oper} {x y z : Operand} (ho : o.op = .build 41 #[(0, x), (1, y), (2, z)])
    (hx : ρ x = .agg (vs S)) (hy : ρ y = .agg (vs T)) (hz : ρ z = .agg (vs U)) (w : World) : (execOp ρ o).run Try.prog w = .ok (.value (.agg (vs [S, T, U].flatten))) w := by
  have h := run_build50 hS hT hU _ (parts3 hx hy hz) w
  unfold execOp
  simp only [ho, Sem.run_bind, h, Result.andThen_ok, Sem.run_pure]
theorem ybld {S T U : List Nat} (hS : S.length = 33) (hT : T.length = 33) (hU : U.length = 33) {ops : Array Oper} {W : World → Prop} {o : Oper} {a : Act} {x y z : Operand} (hw : Region.wanted o (yielded ops a.tmps) = true) (ho : o.op = .build 41 #[(0, x), (1, y), (2, z)])
    (hx : a.eval x = .agg (vs S)) (hy : a.eval y = .agg (vs T)) (hz : a.eval z = .agg (vs U)) : YieldsIf Try.prog ops W o (.agg (vs [S, T, U].flatten)) a :=
  .inl ⟨hw, fun w _ => exec_build50 hS hT hU ho hx hy hz w⟩
theorem exec_lit3 {S T U : List Nat} (hS : S.length = 33) (hT : T.length = 33) (hU : U.length = 33) {ρ : Operand → Value} {o : Oper} {x y z : Operand} (ho : o.op = .buildSlice 25 3 #[(0, x), (1, y), (2, z)])
    (hx : ρ x = .agg (vs S)) (hy : ρ y = .agg (vs T)) (hz : ρ z = .agg (vs U)) (w : World) : (execOp ρ o).run Try.prog w = .ok (.value (.slice (some ⟨w.heap.size, 0, none⟩) 3 3)) (w.alloc (.cells (vs [S, T, U].flatten) 31)) :=
  exec_lit [S, T, U] (fun s hs => by simp at hs; rcases hs with rfl | rfl | rfl <;> assumption) (by simp) (by simp) ρ o rfl _ ho (parts3 hx hy hz) w
theorem ss_lit {S T U : List Nat} {w : World} {g : Nat} {t : TypeId} (hS : S.length = 33) (hT : T.length = 33) (hU : U.length = 33) (bS : Gf.Bytes S) (bT : Gf.Bytes T) (bU : Gf.Bytes U) (h : Own w g t (vs [S, T, U].flatten)) : Ss w (some ⟨g, 0, none⟩) 3 [S, T, U] :=
  ⟨rfl, (fun s hs => by simp at hs; rcases hs with rfl | rfl | rfl <;> exact ⟨by assumption, by assumption⟩), fun _ => ⟨g, 0, rfl, h.rg⟩⟩
theorem idx50 {S T U : List Nat} (hS : S.length = 33) (hT : T.length = 33) (hU : U.length = 33) {k : Nat} (hk : k < 3) (w : World) :
    (Instr.index 41 (.agg (vs [S, T, U].flatten)) (.int .i64 (k : Int))).run Try.prog w = .ok (.agg (vs (nthL [S, T, U] k))) w := by
  obtain ⟨j, hj, hjs⟩ := Option.map_eq_some_iff.1 info34q
  have hsz := run_sizeOf (P := Try.prog) w hj
  have hc : Try.prog.cellsOf 31 = 33 := by kernel_rfl
  have hag : (isAgg 31).run Try.prog w = .ok true w := by
    unfold isAgg
    rw [Sem.run_bind, run_underlying Try.underlying31 w]
    rfl
  have hp : (part 31 (vs [S, T, U].flatten) (k * 33)).run Try.prog w = .ok (.agg ((vs [S, T, U].flatten).extract (k * 33) (k * 33 + 33))) w := by
    unfold part
    simp only [Sem.run_bind, hag, Result.andThen_ok, if_true, hsz, hc, Sem.run_pure]
  have he : (vs [S, T, U].flatten).extract (k * 33) (k * 33 + 33) = vs (nthL [S, T, U] k) := by
    apply Array.ext'
    rw [Array.toList_extract]
    show (vl [S, T, U].flatten).extract (k * 33) (k * 33 + 33) = vl (nthL [S, T, U] k)
    rw [List.extract_eq_take_drop, show k * 33 + 33 - k * 33 = 33 from by omega, vl_drop_take]
    congr 1
    match k, hk with
    | 0, _ => simp [nthL, hS]
    | 1, _ => simp [nthL, hS, hT]
    | 2, _ => simp [nthL, hS, hT, hU, List.drop_append, List.take_of_length_le]
  unfold Instr.index
  simp only [asIntOf, Sem.run_bind, Sem.run_pure, Result.andThen_ok, run_underlying Try.underlying41]
  rw [if_pos ⟨by omega, by omega⟩]
  simp only [Sem.run_bind, hsz, Result.andThen_ok, hc, Int.toNat_natCast]
  rw [hp, he]
theorem res2 {ty : TypeId} {n : Nat} (T : AggT ty n) {fn : Func} {p q : Tmp} {R : Ending → World → Prop} {a : Act} {w : World} {g : Nat} {t : TypeId} {l : List Nat} {v : Value}
    (hr : fn.results = #[.cell p ty, .tmp q]) (hp : a.tmps.getD p undef = .pointer (some ⟨g, 0, none⟩)) (hq : a.tmps.getD q undef = v) (hg : Own w g t (vs l)) (hl : l.length = n) (hd : a.defers = [])
    (hR : R (.returned (.tuple #[.agg (vs l), v])) w) : bodyPost Try.prog fn R .ret a w := by
  obtain ⟨d, hu, _, hr'⟩ := T.und
  refine bodyPost_ret (v := .tuple #[.agg (vs l), v]) ?_ hd hR
  have hp' : a.tmps[p]?.getD undef = .pointer (some ⟨g, 0, none⟩) := by simpa using hp
  have hq' : a.tmps[q]?.getD undef = v := by simpa using hq
  have hlv := run_loadVar_row (P := Try.prog) w g t ty (vs l) (0, 0) d hg hu (by cases d <;> first | rfl | (simp at hr')) (by rw [T.siz, vs_size, hl])
  simp [results, hr, hp', hq', asAddr, hlv]
theorem bld23z {ops : Array Oper} {rest : List Oper} {o : Oper} {a : Act} {w : World} {Q : Exit → Act → World → Prop} (hgd : o.guard = none) (ho : o.op = .build 23 #[])
    (h : wpList Try.prog ops Q rest (a.put o.dst (.agg (vs (zs 32)))) w) : wpList Try.prog ops Q (o :: rest) a w := by
  have hb : Try.prog.built 23 [] = some (vs (zs 32)) := by kernel_rfl
  have e : ((#[] : Array (Nat × Operand)).map fun (i, x) => (i, a.eval x)).toList = [] := by simp
  refine wpList_build hgd 23 _ ho (by rw [e, hb]; rfl) ?_
  rw [e, hb]
  exact h
end Go.Proofs.Ytkilphanbookkaa
