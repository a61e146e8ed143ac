/-
  How an argument that is a program is opened.
-/
import Derived.Test.YtkbelpkmlmfedaaEt
import Derived.ProofKit
import Derived.OpenShut
import Derived.ChangeSlices
import Derived.WideShapes
namespace Go.Proofs.Ytkbelpkmlmfedaa
set_option linter.unusedVariables false
set_option maxRecDepth 100000
set_option linter.unusedSimpArgs false
open Go.ChangeShapes Go.WideShapes Go.ChangeAt Go.RowKit
namespace Xe
open _root_.Go.Proofs.Ytkbelpkmlmfedaa.Nm
theorem laidOut : laidOutB Try.prog = true := by kernel_rfl
theorem cells25 : Try.prog.cellsOf 25 = 4 := by kernel_rfl
theorem cells22 : Try.prog.cellsOf 22 = 1 := by kernel_rfl
theorem cells23 : Try.prog.cellsOf 23 = 1 := by kernel_rfl
theorem cells3 : Try.prog.cellsOf 3 = 1 := by kernel_rfl
theorem cells9' : Try.prog.cellsOf 9 = 1 := by kernel_rfl
theorem wf_u32 {n : Int} (h : (Lit.int .u32 n).wf = true) : 0 ≤ n ∧ n < 4294967296 := by
  simp [Lit.wf, IntKind.min, IntKind.max, IntKind.signed, IntKind.bits] at h
  omega
theorem wf_i64 {n : Int} (h : (Lit.int .i64 n).wf = true) : -9223372036854775808 ≤ n ∧ n ≤ 9223372036854775807 := by
  simp [Lit.wf, IntKind.min, IntKind.max, IntKind.signed, IntKind.bits] at h
  omega
theorem words_of {H : Type} {enc : TypeId × Value → H} {W : World} {fuel : Nat} {c : Value} {y : DataW H × List MemPlace} (h : DataW.trod enc Try.prog W 0 (fun _ => true) true fuel 22 [c] = some y) :
    ∃ a n cap l, c = .slice a n cap ∧ Ws W a n l ∧ Em.Wd l ∧ n ≤ 9223372036854775807 := by
  rcases open_ints Try.underlying22 Try.underlying23 cells23 h with ⟨hcs, _⟩ | ⟨x, len, cap, zs, hcs, _, hl, hm, hz, _, hcell, hwf⟩
  · simp at hcs
    subst hcs
    exact ⟨none, 0, 0, [], rfl, ⟨rfl, fun h => absurd h (by omega)⟩, (fun x hx => nomatch hx), by omega⟩
  · simp at hcs
    subst hcs
    simp only [if_true] at hz
    refine ⟨some x, len, cap, (zs.take len).map Int.toNat, rfl, ⟨by simp; omega, fun h0 => ?_⟩, ?_, by unfold maxLen at hm; omega⟩
    · obtain ⟨b, off, spot⟩ := x
      have hspot : spot = none := by simpa [Addr.add] using World.cell?_spot (hcell 0 (by omega))
      subst hspot
      refine ⟨b, off, rfl, fun i hi => ?_⟩
      have e := hcell i (by omega)
      rw [Nm.addr_add] at e
      rw [e]
      have hi' : i < zs.length := by omega
      have hw := (wf_u32 (hwf zs[i] (List.getElem_mem hi'))).1
      rw [wn_eq (by simp; omega), List.getElem_map, List.getElem_take]
      rw [List.getD_eq_getElem?_getD, List.getElem?_eq_getElem hi']
      simp only [Option.getD_some]
      rw [Int.toNat_of_nonneg hw]
    · intro z hz'
      obtain ⟨q, hq, rfl⟩ := List.mem_map.1 hz'
      have := wf_u32 (hwf q (List.mem_of_mem_take hq))
      omega
theorem okExe {H : Type} {enc : TypeId × Value → H} {W : World} {base : Nat} {v : Value} {d : DataW H} {p : List MemPlace} (hv : Value.okWide Try.prog W .any base 25 v) (h : DataW.Trod enc Try.prog W 0 (fun _ => true) true 25 v d p) :
    ∃ (x : Xv) (l : List Nat), v = .agg x.cs ∧ x.Ok ∧ Ws W x.a x.n l ∧ Em.Wd l := by
  obtain ⟨cs, rfl, hsz⟩ := okWide_struct Try.underlying25 hv
  rw [cells25] at hsz
  obtain ⟨fuel, hf⟩ := h
  obtain ⟨xs, n, _, _, _, hlen, hx⟩ := DataW.trod_struct Try.underlying25 hf
  obtain ⟨ls⟩ := cs
  match ls, hsz with
  | [c0, c1, c2, c3], _ =>
    have g : ∀ i, i < 4 → ∃ y, xs[i]? = some y := fun i hi => ⟨_, List.getElem?_eq_getElem (show i < xs.length by rw [hlen]; exact hi)⟩
    obtain ⟨y0, e0⟩ := g 0 (by omega)
    obtain ⟨y1, e1⟩ := g 1 (by omega)
    obtain ⟨y2, e2⟩ := g 2 (by omega)
    obtain ⟨y3, e3⟩ := g 3 (by omega)
    have t0 : DataW.trod enc Try.prog W 0 (fun _ => true) true n 22 (([c0, c1, c2, c3].drop 0).take (Try.prog.cellsOf 22)) = xs[0]? := hx 0 _ rfl
    have t1 : DataW.trod enc Try.prog W 0 (fun _ => true) true n 9 (([c0, c1, c2, c3].drop 1).take (Try.prog.cellsOf 9)) = xs[1]? := hx 1 _ rfl
    have t2 : DataW.trod enc Try.prog W 0 (fun _ => true) true n 3 (([c0, c1, c2, c3].drop 2).take (Try.prog.cellsOf 3)) = xs[2]? := hx 2 _ rfl
    have t3 : DataW.trod enc Try.prog W 0 (fun _ => true) true n 23 (([c0, c1, c2, c3].drop 3).take (Try.prog.cellsOf 23)) = xs[3]? := hx 3 _ rfl
    rw [e0] at t0
    rw [e1] at t1
    rw [e2] at t2
    rw [e3] at t3
    rw [cells22] at t0
    rw [cells9'] at t1
    rw [cells3] at t2
    rw [cells23] at t3
    simp only [List.drop_zero, List.drop_succ_cons, List.take_succ_cons, List.take_zero] at t0 t1 t2 t3
    obtain ⟨a, m, cap, l, rfl, hW, hw, hm⟩ := words_of t0
    obtain ⟨s, hs, _, hs2⟩ := DataW.trod_string Try.underlying9 t1
    obtain ⟨r, hr, _, hr2⟩ := DataW.trod_int Try.underlying3 t2
    obtain ⟨e, he, _, he2⟩ := DataW.trod_int Try.underlying23 t3
    simp only [List.cons.injEq, and_true] at hs hr he
    subst hs hr he
    have wr := wf_i64 hr2
    have we := wf_u32 he2
    obtain ⟨k, rfl⟩ := Int.eq_ofNat_of_zero_le we.1
    exact ⟨⟨a, m, cap, s, r, k⟩, l, rfl, ⟨hm, by unfold maxLen at hs2; exact hs2, wr.1, wr.2, by have := we.2; show k < 4294967296; omega⟩, hW, hw⟩
end Xe
end Go.Proofs.Ytkbelpkmlmfedaa
