/-
  A region that draws its order, walked by hand: what reads is taken first, in the text's order; what writes comes when it must; a text of bytes.
-/
import Derived.Test.YtgfnpemonpebpaaSp
import Derived.Deep.RegionHeld
import Derived.Laws.BytesArg
namespace Go.Proofs.Ytgfnpemonpebpaa
open Go.RowKit
set_option linter.unusedVariables false
set_option linter.unusedSimpArgs false
section
variable {P : Program} {l : List Oper} {Q : Exit → Act → World → Prop} {md : Region.Mode} {S : World → Prop}
theorem tkH {i : Nat} {oi : Oper} {v : Value} {fuel : Nat} {listed : Array Bool} {a : Act} {w : World} (hi : l[i]? = some oi)
    (hs : Region.noSelect l.toArray = true) (hf : Region.free md l.toArray listed i = true) (hr : (Region.ready md l.toArray listed).contains i = true)
    (hQ : ∀ c a w, Q (.panic c) (a.put oi.dst v) w → Q (.panic c) a w) (hS : S w) (hy : YieldsIf P l.toArray S oi v a)
    (h : wpAnyH P md l.toArray Q S fuel (listed.setIfInBounds i true) (a.put oi.dst v) w) : wpAnyH P md l.toArray Q S (fuel + 1) listed a w :=
  wpAnyH_take (by rw [List.getElem?_toArray]; exact hi) hs hf hr hQ hy hS h
theorem efH {i : Nat} {oi : Oper} {fuel : Nat} {listed : Array Bool} {a : Act} {w : World} (hi : l[i]? = some oi) (hr : Region.ready md l.toArray listed = [i]) (hw : Region.wanted oi (yielded l.toArray a.tmps) = true)
    (h : ∀ K : Act → World → Prop, Shut (∀ a w, S w → (S w → wpAnyH P md l.toArray Q S fuel (listed.setIfInBounds i true) a w) → K a w) → Oper.wp P oi a w K Q) : wpAnyH P md l.toArray Q S (fuel + 1) listed a w :=
  wpAnyH_ready hr (by simp) (AllReadyH.cons (by rw [List.getElem?_toArray]; exact hi) (fun K hK => by rw [if_pos hw]; exact h K hK) AllReadyH.nil)
theorem wp_of_exec {oi : Oper} {a : Act} {w w' : World} {v : Value} {K : Act → World → Prop} (he : (execOp a.eval oi).run P w = .ok (.value v) w') (h : K (a.put oi.dst v) w') : Oper.wp P oi a w K Q := by
  unfold Oper.wp
  rw [he]
  exact h
end
theorem yld {ty : TypeId} {n : Nat} (T : AggT ty n) {ops : Array Oper} {W : World} {op : Oper} {a : Act} (hw : Region.wanted op (yielded ops a.tmps) = true) {x : Operand} (ho : op.op = .load ty x)
    {b o : Nat} (hx : a.eval x = .pointer (some ⟨b, o, none⟩)) (l : List Nat) (hS : Rg W b o l) (hl : l.length = n) : YieldsIf Try.prog ops (fun w' => Below W.heap.size W w') op (.agg (vs l)) a :=
  yload T hw ho hx l (fun w h => hS.below h) hl
theorem exec_new {ty : TypeId} {n : Nat} (Z : ZT ty n) {ρ : Operand → Value} {o : Oper} (ho : o.op = .alloc ty) (w : World) :
    (execOp ρ o).run Try.prog w = .ok (.value (.pointer (some ⟨w.heap.size, 0, none⟩))) (w.alloc (.cells (vs (zs n)) ty)) := by
  unfold execOp
  simp only [ho, Sem.run_bind, Instr.alloc, Z w, Result.andThen_ok, newVar, newRow, run_newObj_alloc, Sem.run_pure]
  rfl
/-- bytes as a text -/
def bs (L : List Nat) : ByteArray := ⟨(L.map UInt8.ofNat).toArray⟩
theorem bs_size (L : List Nat) : (bs L).size = L.length := by simp [bs, ByteArray.size]
theorem toN_bs {L : List Nat} (h : Gf.Bytes L) : toN (bs L) = L := by
  unfold toN bs
  rw [List.map_map]
  conv => rhs; rw [← List.map_id L]
  refine List.map_congr_left fun x hx => ?_
  show (UInt8.ofNat x).toNat = x
  rw [UInt8.toNat_ofNat']
  exact Nat.mod_eq_of_lt (h x hx)
theorem conv_bs (W : World) (b o : Nat) (L : List Nat) (n cap : Nat) (hn : L.length = n) (h : Rg W b o L) : (convert 36 9 (.slice (some ⟨b, o, none⟩) n cap)).run Try.prog W = .ok (.string (bs L)) W := by
  subst hn
  have e := run_convert_bytes_arg W 36 5 Try.underlying36 Try.underlying5 b o L.length cap (L.map fun (x : Nat) => (x : Int)) (by simp) (fun i hi => by
    rw [h.cell hi, Gf.nth_eq]
    simp [List.getD_eq_getElem?_getD, hi]) 9 Try.underlying9
  rw [e]
  unfold strOfNums bs
  simp [List.map_map, Function.comp_def]
end Go.Proofs.Ytgfnpemonpebpaa
