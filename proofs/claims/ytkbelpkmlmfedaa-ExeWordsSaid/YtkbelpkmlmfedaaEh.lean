/-
  A slice of instructions as an argument: how it is opened.
-/
import Derived.Test.YtkbelpkmlmfedaaJDe
import Derived.Test.YtkbelpkmlmfedaaEo
namespace Go.Proofs.Ytkbelpkmlmfedaa
set_option linter.unusedVariables false
set_option maxRecDepth 100000
set_option linter.unusedSimpArgs false
open Go.ChangeShapes Go.WideShapes Go.ChangeAt Go.RowKit
namespace Xe
open _root_.Go.Proofs.Ytkbelpkmlmfedaa.Nm
/-- the slice reads as these instructions -/
structure Ix (w : World) (a : Option Addr) (n : Nat) (l : List Is.Ins) : Prop where
  len : l.length = n
  c : 0 < n → ∃ b off, a = some ⟨b, off, none⟩ ∧ ∀ i (x : Is.Ins), l[i]? = some x →
    w.cell? ⟨b, off + i * 5, none⟩ = some (.int .u8 (x.op : Nat)) ∧ w.cell? ⟨b, off + i * 5 + 1, none⟩ = some (.int .u8 (x.a : Nat)) ∧ w.cell? ⟨b, off + i * 5 + 2, none⟩ = some (.int .u8 (x.b : Nat)) ∧
    w.cell? ⟨b, off + i * 5 + 3, none⟩ = some (.int .u8 (x.c : Nat)) ∧ w.cell? ⟨b, off + i * 5 + 4, none⟩ = some (.int .i32 x.imm)
theorem Ix.below {w w1 : World} {a : Option Addr} {n : Nat} {l : List Is.Ins} (h : Ix w a n l) (hx : Below w.heap.size w w1) : Ix w1 a n l :=
  ⟨h.len, fun h0 => by
    obtain ⟨b, off, e, hc⟩ := h.c h0
    refine ⟨b, off, e, fun i x hi => ?_⟩
    obtain ⟨c0, c1, c2, c3, c4⟩ := hc i x hi
    have hb : b < w.heap.size := World.block_lt_of_cell? _ _ c0
    exact ⟨(hx.cell hb).trans c0, (hx.cell hb).trans c1, (hx.cell hb).trans c2, (hx.cell hb).trans c3, (hx.cell hb).trans c4⟩⟩
theorem cells49 : Try.prog.cellsOf 49 = 5 := by kernel_rfl
theorem cells5 : Try.prog.cellsOf 5 = 1 := by kernel_rfl
theorem cells21 : Try.prog.cellsOf 21 = 1 := by kernel_rfl
theorem wf_u8 {n : Int} (h : (Lit.int .u8 n).wf = true) : 0 ≤ n ∧ n < 256 := by
  simp [Lit.wf, IntKind.min, IntKind.max, IntKind.signed, IntKind.bits] at h
  omega
theorem wf_i32 {n : Int} (h : (Lit.int .i32 n).wf = true) : -2147483648 ≤ n ∧ n ≤ 2147483647 := by
  simp [Lit.wf, IntKind.min, IntKind.max, IntKind.signed, IntKind.bits] at h
  omega
theorem ins_of {H : Type} {enc : TypeId × Value → H} {W : World} {fuel : Nat} {cs : List Value} {y : DataW H × List MemPlace} (hsz : cs.length = 5) (h : DataW.trod enc Try.prog W 0 (fun _ => true) true fuel 49 cs = some y) :
    ∃ x : Is.Ins, cs = [.int .u8 (x.op : Nat), .int .u8 (x.a : Nat), .int .u8 (x.b : Nat), .int .u8 (x.c : Nat), .int .i32 x.imm] ∧ x.Ok := by
  obtain ⟨xs, n, _, _, _, hlen, hx⟩ := DataW.trod_struct Try.underlying49 h
  match cs, hsz with
  | [c0, c1, c2, c3, c4], _ =>
    have g : ∀ i, i < 5 → ∃ y, xs[i]? = some y := fun i hi => ⟨_, List.getElem?_eq_getElem (show i < xs.length by rw [hlen]; exact hi)⟩
    obtain ⟨y0, e0⟩ := g 0 (by omega)
    obtain ⟨y1, e1⟩ := g 1 (by omega)
    obtain ⟨y2, e2⟩ := g 2 (by omega)
    obtain ⟨y3, e3⟩ := g 3 (by omega)
    obtain ⟨y4, e4⟩ := g 4 (by omega)
    have t0 : DataW.trod enc Try.prog W 0 (fun _ => true) true n 5 (([c0, c1, c2, c3, c4].drop 0).take (Try.prog.cellsOf 5)) = xs[0]? := hx 0 _ rfl
    have t1 : DataW.trod enc Try.prog W 0 (fun _ => true) true n 5 (([c0, c1, c2, c3, c4].drop 1).take (Try.prog.cellsOf 5)) = xs[1]? := hx 1 _ rfl
    have t2 : DataW.trod enc Try.prog W 0 (fun _ => true) true n 5 (([c0, c1, c2, c3, c4].drop 2).take (Try.prog.cellsOf 5)) = xs[2]? := hx 2 _ rfl
    have t3 : DataW.trod enc Try.prog W 0 (fun _ => true) true n 5 (([c0, c1, c2, c3, c4].drop 3).take (Try.prog.cellsOf 5)) = xs[3]? := hx 3 _ rfl
    have t4 : DataW.trod enc Try.prog W 0 (fun _ => true) true n 21 (([c0, c1, c2, c3, c4].drop 4).take (Try.prog.cellsOf 21)) = xs[4]? := hx 4 _ rfl
    rw [e0, cells5] at t0
    rw [e1, cells5] at t1
    rw [e2, cells5] at t2
    rw [e3, cells5] at t3
    rw [e4, cells21] at t4
    simp only [List.drop_zero, List.drop_succ_cons, List.take_succ_cons, List.take_zero] at t0 t1 t2 t3 t4
    obtain ⟨n0, h0, _, w0⟩ := DataW.trod_int Try.underlying5 t0
    obtain ⟨n1, h1, _, w1⟩ := DataW.trod_int Try.underlying5 t1
    obtain ⟨n2, h2, _, w2⟩ := DataW.trod_int Try.underlying5 t2
    obtain ⟨n3, h3, _, w3⟩ := DataW.trod_int Try.underlying5 t3
    obtain ⟨n4, h4, _, w4⟩ := DataW.trod_int Try.underlying21 t4
    simp only [List.cons.injEq, and_true] at h0 h1 h2 h3 h4
    subst h0 h1 h2 h3 h4
    have v0 := wf_u8 w0
    have v1 := wf_u8 w1
    have v2 := wf_u8 w2
    have v3 := wf_u8 w3
    have v4 := wf_i32 w4
    obtain ⟨m0, rfl⟩ := Int.eq_ofNat_of_zero_le v0.1
    obtain ⟨m1, rfl⟩ := Int.eq_ofNat_of_zero_le v1.1
    obtain ⟨m2, rfl⟩ := Int.eq_ofNat_of_zero_le v2.1
    obtain ⟨m3, rfl⟩ := Int.eq_ofNat_of_zero_le v3.1
    refine ⟨⟨m0, m1, m2, m3, n4⟩, rfl, ?_⟩
    unfold Is.Ins.Ok
    dsimp only
    omega
theorem okIns {H : Type} {enc : TypeId × Value → H} {W : World} {a : Option Addr} {n cap : Nat} {d : DataW H} {p : List MemPlace} (h : DataW.Trod enc Try.prog W 0 (fun _ => true) true 45 (.slice a n cap) d p) :
    ∃ l : List Is.Ins, Ix W a n l ∧ (∀ x ∈ l, x.Ok) ∧ n ≤ 9223372036854775807 := by
  obtain ⟨fuel, hf⟩ := h
  rcases DataW.trod_slice Try.underlying45 hf with ⟨h0, _⟩ | ⟨a, len, cap', elems, rest, n', _, hcs, _, hb, hl, hm, hlen, hel, _, _⟩
  · simp [Value.cells] at h0
    obtain ⟨rfl, rfl, rfl⟩ := h0
    exact ⟨[], ⟨rfl, fun h => absurd h (by omega)⟩, (fun x hx => nomatch hx), by omega⟩
  · simp [Value.cells] at hcs
    obtain ⟨rfl, rfl, rfl⟩ := hcs
    have each : ∀ i, i < n → ∃ x : Is.Ins, W.cells? 0 (a.add (i * 5)) 5 = some [.int .u8 (x.op : Nat), .int .u8 (x.a : Nat), .int .u8 (x.b : Nat), .int .u8 (x.c : Nat), .int .i32 x.imm] ∧ x.Ok := by
      intro i hi
      have hb' := hel i hi
      rw [List.getElem?_eq_getElem (by omega), cells49, Option.bind_eq_some_iff] at hb'
      obtain ⟨cs', hcs', hy⟩ := hb'
      obtain ⟨x, rfl, hx⟩ := ins_of (World.cells?_some hcs').2.1 hy
      exact ⟨x, hcs', hx⟩
    have rows : ∀ m, m ≤ n → ∃ l : List Is.Ins, l.length = m ∧ ∀ i (x : Is.Ins), l[i]? = some x → W.cells? 0 (a.add (i * 5)) 5 = some [.int .u8 (x.op : Nat), .int .u8 (x.a : Nat), .int .u8 (x.b : Nat), .int .u8 (x.c : Nat), .int .i32 x.imm] ∧ x.Ok := by
      intro m
      induction m with
      | zero => exact fun _ => ⟨[], rfl, fun i x h => by simp at h⟩
      | succ m ih =>
        intro hm'
        obtain ⟨l, hl', hx⟩ := ih (by omega)
        obtain ⟨y, hy⟩ := each m (by omega)
        refine ⟨l ++ [y], by simp [hl'], fun i x h => ?_⟩
        by_cases hi : i < l.length
        · rw [List.getElem?_append_left hi] at h
          exact hx i x h
        · rw [List.getElem?_append_right (by omega)] at h
          obtain ⟨h1, h2⟩ := List.getElem?_eq_some_iff.1 h
          have : i = m := by simp at h1; omega
          subst this
          simp at h2
          subst h2
          exact hy
    obtain ⟨l, hl', hx⟩ := rows n (Nat.le_refl _)
    refine ⟨l, ⟨hl', fun h0 => ?_⟩, fun x hm' => ?_, by unfold maxLen at hm; omega⟩
    · obtain ⟨b, off, spot⟩ := a
      have hspot : spot = none := by
        have e0 : l[0]? = some l[0] := List.getElem?_eq_getElem (by omega)
        have := (World.cells?_some (hx 0 _ e0).1).2.2 0 (by omega)
        simpa [Addr.add] using World.cell?_spot this
      subst hspot
      refine ⟨b, off, rfl, fun i x hi => ?_⟩
      have c := (World.cells?_some (hx i x hi).1).2.2
      simp only [Nm.addr_add] at c
      exact ⟨c 0 (by omega), c 1 (by omega), c 2 (by omega), c 3 (by omega), c 4 (by omega)⟩
    · obtain ⟨i, hi, rfl⟩ := List.mem_iff_getElem.1 hm'
      exact (hx i _ (List.getElem?_eq_getElem hi)).2
end Xe
end Go.Proofs.Ytkbelpkmlmfedaa
