/-
  How the arguments of memory's laws are opened: a space, an address with what belongs to it.
-/
import Derived.Test.YtkbelpkmlmfedaaMw
import Derived.Test.YtkbelpkmlmfedaaEo
import Derived.Test.YtkbelpkmlmfedaaNk
namespace Go.Proofs.Ytkbelpkmlmfedaa
set_option linter.unusedVariables false
set_option maxRecDepth 100000
set_option linter.unusedSimpArgs false
open Go.ChangeShapes Go.WideShapes Go.ChangeAt Go.RowKit
namespace Mo
open _root_.Go.Proofs.Ytkbelpkmlmfedaa.Nm _root_.Go.Proofs.Ytkbelpkmlmfedaa.Xe
theorem cells55 : Try.prog.cellsOf 55 = 3 := by kernel_rfl
theorem cells57 : Try.prog.cellsOf 57 = 48 := by kernel_rfl
theorem cells59 : Try.prog.cellsOf 59 = 4 := by kernel_rfl
theorem cells70 : Try.prog.cellsOf 70 = 3 := by kernel_rfl
theorem cells4 : Try.prog.cellsOf 4 = 1 := by kernel_rfl
theorem pt_of {H : Type} {enc : TypeId × Value → H} {W : World} {fuel : Nat} {cs : List Value} {y : DataW H × List MemPlace} (hsz : cs.length = 3) (h : DataW.trod enc Try.prog W 0 (fun _ => true) true fuel 55 cs = some y) :
    ∃ p : Mm.Pt, cs = pv p ∧ -9223372036854775808 ≤ p.f ∧ p.f ≤ 9223372036854775807 := by
  obtain ⟨xs, n, _, _, _, hlen, hx⟩ := DataW.trod_struct Try.underlying55 h
  match cs, hsz with
  | [c0, c1, c2], _ =>
    have g : ∀ i, i < 3 → ∃ y, xs[i]? = some y := fun i hi => ⟨_, List.getElem?_eq_getElem (show i < xs.length by rw [hlen]; exact hi)⟩
    obtain ⟨y0, e0⟩ := g 0 (by omega)
    obtain ⟨y1, e1⟩ := g 1 (by omega)
    obtain ⟨y2, e2⟩ := g 2 (by omega)
    have t0 : DataW.trod enc Try.prog W 0 (fun _ => true) true n 4 (([c0, c1, c2].drop 0).take (Try.prog.cellsOf 4)) = xs[0]? := hx 0 _ rfl
    have t1 : DataW.trod enc Try.prog W 0 (fun _ => true) true n 4 (([c0, c1, c2].drop 1).take (Try.prog.cellsOf 4)) = xs[1]? := hx 1 _ rfl
    have t2 : DataW.trod enc Try.prog W 0 (fun _ => true) true n 3 (([c0, c1, c2].drop 2).take (Try.prog.cellsOf 3)) = xs[2]? := hx 2 _ rfl
    rw [e0, cells4] at t0
    rw [e1, cells4] at t1
    rw [e2, cells3] at t2
    simp only [List.drop_zero, List.drop_succ_cons, List.take_succ_cons, List.take_zero] at t0 t1 t2
    obtain ⟨b0, h0, _⟩ := DataW.trod_bool Try.underlying4 t0
    obtain ⟨b1, h1, _⟩ := DataW.trod_bool Try.underlying4 t1
    obtain ⟨n2, h2, _, w2⟩ := DataW.trod_int Try.underlying3 t2
    simp only [List.cons.injEq, and_true] at h0 h1 h2
    subst h0 h1 h2
    have v2 := wf_i64 w2
    exact ⟨⟨b0, b1, n2⟩, rfl, v2.1, v2.2⟩
theorem space_of {H : Type} {enc : TypeId × Value → H} {W : World} {fuel : Nat} {cs : List Value} {y : DataW H × List MemPlace} (h : DataW.trod enc Try.prog W 0 (fun _ => true) true fuel 57 cs = some y) :
    ∃ s : Mm.Sp, cs = sl s ∧ SpOk s := by
  obtain ⟨xs, m, _, _, hl, hlen, hx⟩ := DataW.trod_array Try.underlying57 h
  rw [cells57] at hl
  have each : ∀ i, i < 16 → ∃ p : Mm.Pt, (cs.drop (i * 3)).take 3 = pv p ∧ -9223372036854775808 ≤ p.f ∧ p.f ≤ 9223372036854775807 := by
    intro i hi
    have := hx i hi
    rw [cells55, List.getElem?_eq_getElem (show i < xs.length by rw [hlen]; exact hi)] at this
    exact pt_of (by simp; omega) this
  have rows : ∀ k, k ≤ 16 → ∃ s : Mm.Sp, s.length = k ∧ cs.take (k * 3) = sl s ∧ ∀ p ∈ s, -9223372036854775808 ≤ p.f ∧ p.f ≤ 9223372036854775807 := by
    intro k
    induction k with
    | zero => exact fun _ => ⟨[], rfl, by simp [sl], fun p hp => nomatch hp⟩
    | succ k ih =>
      intro hk
      obtain ⟨s, h1, h2, h3⟩ := ih (by omega)
      obtain ⟨p, p1, p2⟩ := each k (by omega)
      refine ⟨s ++ [p], by simp [h1], ?_, fun x hx => ?_⟩
      · rw [show (k + 1) * 3 = k * 3 + 3 from by omega, List.take_add, h2, p1]
        simp [sl]
      · rcases List.mem_append.1 hx with hx | hx
        · exact h3 x hx
        · rw [List.mem_singleton.1 hx]; exact p2
  obtain ⟨s, h1, h2, h3⟩ := rows 16 (by omega)
  rw [List.take_of_length_le (by omega)] at h2
  have hp : ∀ i, -9223372036854775808 ≤ (Mm.pt s i).f ∧ (Mm.pt s i).f ≤ 9223372036854775807 := by
    intro i
    unfold Mm.pt
    rw [List.getD_eq_getElem?_getD]
    cases e : s[i]? with
    | none => exact ⟨by decide, by decide⟩
    | some p => exact h3 p (List.mem_of_getElem? e)
  exact ⟨s, h2, h1, fun i => (hp i).1, fun i => (hp i).2⟩
theorem okSpace {H : Type} {enc : TypeId × Value → H} {W : World} {base : Nat} {v : Value} {d : DataW H} {p : List MemPlace} (hv : Value.okWide Try.prog W .any base 57 v) (h : DataW.Trod enc Try.prog W 0 (fun _ => true) true 57 v d p) :
    ∃ s : Mm.Sp, v = .agg (sc s) ∧ SpOk s := by
  obtain ⟨cs, rfl⟩ : ∃ cs : Array Value, v = .agg cs := by
    unfold Value.okWide at hv
    rw [Try.underlying57] at hv
    cases v <;> simp at hv
    exact ⟨_, rfl⟩
  obtain ⟨fuel, hf⟩ := h
  obtain ⟨s, hs, ok⟩ := space_of hf
  refine ⟨s, ?_, ok⟩
  have : cs.toList = sl s := hs
  unfold sc
  rw [← this]
theorem nil_arg {H : Type} {enc : TypeId × Value → H} {W : World} {d : DataW H} {p : List MemPlace} {a : Option Addr} {len cap : Nat} (h : DataW.Trod enc Try.prog W 0 (fun _ => true) true 53 (Value.slice a len cap) d p) (ha : a = none) : len = 0 ∧ cap = 0 := by
  subst ha
  obtain ⟨fuel, hf⟩ := h
  rcases open_strings Try.underlying53 Try.underlying9 Nm.cells9 hf with ⟨hcs, _⟩ | ⟨x, len', cap', ss, hcs, _⟩
  · simp [Value.cells] at hcs
    exact hcs
  · simp [Value.cells] at hcs
theorem fs_inj {a b : List ByteArray} (h : fs a = fs b) : a = b := by
  have key : ∀ (a b : List ByteArray), a.map toL = b.map toL → a = b := by
    intro a
    induction a with
    | nil => intro b h; cases b with
      | nil => rfl
      | cons y b => cases h
    | cons x a ih => intro b h; cases b with
      | nil => cases h
      | cons y b =>
        rw [List.map_cons, List.map_cons] at h
        injection h with h1 h2
        rw [toL_inj h1, ih b h2]
  exact key a b h
/-- an address, a size, whether it is written, a number -/
structure By where
  q : Nat
  n : Int
  w : Bool
  v : Nat
def By.cs (x : By) : Array Value := #[.int .u32 (x.q : Nat), .int .i64 x.n, .bool x.w, .int .u32 (x.v : Nat)]
structure By.Ok (x : By) : Prop where
  q : x.q < 4294967296
  n0 : -9223372036854775808 ≤ x.n
  n1 : x.n ≤ 9223372036854775807
  v : x.v < 4294967296
theorem okBy {H : Type} {enc : TypeId × Value → H} {W : World} {base : Nat} {v : Value} {d : DataW H} {p : List MemPlace} (hv : Value.okWide Try.prog W .any base 59 v) (h : DataW.Trod enc Try.prog W 0 (fun _ => true) true 59 v d p) :
    ∃ x : By, v = .agg x.cs ∧ x.Ok := by
  obtain ⟨cs, rfl, hsz⟩ := okWide_struct Try.underlying59 hv
  rw [cells59] at hsz
  obtain ⟨fuel, hf⟩ := h
  obtain ⟨xs, n, _, _, _, hlen, hx⟩ := DataW.trod_struct Try.underlying59 hf
  obtain ⟨ls⟩ := cs
  match ls, hsz with
  | [c0, c1, c2, c3], _ =>
    have g : ∀ i, i < 4 → ∃ y, xs[i]? = some y := fun i hi => ⟨_, List.getElem?_eq_getElem (show i < xs.length by rw [hlen]; exact hi)⟩
    obtain ⟨y0, e0⟩ := g 0 (by omega)
    obtain ⟨y1, e1⟩ := g 1 (by omega)
    obtain ⟨y2, e2⟩ := g 2 (by omega)
    obtain ⟨y3, e3⟩ := g 3 (by omega)
    have t0 : DataW.trod enc Try.prog W 0 (fun _ => true) true n 23 (([c0, c1, c2, c3].drop 0).take (Try.prog.cellsOf 23)) = xs[0]? := hx 0 _ rfl
    have t1 : DataW.trod enc Try.prog W 0 (fun _ => true) true n 3 (([c0, c1, c2, c3].drop 1).take (Try.prog.cellsOf 3)) = xs[1]? := hx 1 _ rfl
    have t2 : DataW.trod enc Try.prog W 0 (fun _ => true) true n 4 (([c0, c1, c2, c3].drop 2).take (Try.prog.cellsOf 4)) = xs[2]? := hx 2 _ rfl
    have t3 : DataW.trod enc Try.prog W 0 (fun _ => true) true n 23 (([c0, c1, c2, c3].drop 3).take (Try.prog.cellsOf 23)) = xs[3]? := hx 3 _ rfl
    rw [e0, cells23] at t0
    rw [e1, cells3] at t1
    rw [e2, cells4] at t2
    rw [e3, cells23] at t3
    simp only [List.drop_zero, List.drop_succ_cons, List.take_succ_cons, List.take_zero] at t0 t1 t2 t3
    obtain ⟨n0, h0, _, w0⟩ := DataW.trod_int Try.underlying23 t0
    obtain ⟨n1, h1, _, w1⟩ := DataW.trod_int Try.underlying3 t1
    obtain ⟨b2, h2, _⟩ := DataW.trod_bool Try.underlying4 t2
    obtain ⟨n3, h3, _, w3⟩ := DataW.trod_int Try.underlying23 t3
    simp only [List.cons.injEq, and_true] at h0 h1 h2 h3
    subst h0 h1 h2 h3
    have v0 := wf_u32 w0
    have v1 := wf_i64 w1
    have v3 := wf_u32 w3
    obtain ⟨m0, rfl⟩ := Int.eq_ofNat_of_zero_le v0.1
    obtain ⟨m3, rfl⟩ := Int.eq_ofNat_of_zero_le v3.1
    exact ⟨⟨m0, n1, b2, m3⟩, rfl, by have := v0.2; show m0 < 4294967296; omega, v1.1, v1.2, by have := v3.2; show m3 < 4294967296; omega⟩
/-- an address, how many bytes, bytes -/
structure Span where
  q : Nat
  n : Int
  d : ByteArray
def Span.cs (x : Span) : Array Value := #[.int .u32 (x.q : Nat), .int .i64 x.n, .string x.d]
structure Span.Ok (x : Span) : Prop where
  q : x.q < 4294967296
  n0 : -9223372036854775808 ≤ x.n
  n1 : x.n ≤ 9223372036854775807
  d : x.d.size ≤ 9223372036854775807
theorem okSpan {H : Type} {enc : TypeId × Value → H} {W : World} {base : Nat} {v : Value} {d : DataW H} {p : List MemPlace} (hv : Value.okWide Try.prog W .any base 70 v) (h : DataW.Trod enc Try.prog W 0 (fun _ => true) true 70 v d p) :
    ∃ x : Span, v = .agg x.cs ∧ x.Ok := by
  obtain ⟨cs, rfl, hsz⟩ := okWide_struct Try.underlying70 hv
  rw [cells70] at hsz
  obtain ⟨fuel, hf⟩ := h
  obtain ⟨xs, n, _, _, _, hlen, hx⟩ := DataW.trod_struct Try.underlying70 hf
  obtain ⟨ls⟩ := cs
  match ls, hsz with
  | [c0, c1, c2], _ =>
    have g : ∀ i, i < 3 → ∃ y, xs[i]? = some y := fun i hi => ⟨_, List.getElem?_eq_getElem (show i < xs.length by rw [hlen]; exact hi)⟩
    obtain ⟨y0, e0⟩ := g 0 (by omega)
    obtain ⟨y1, e1⟩ := g 1 (by omega)
    obtain ⟨y2, e2⟩ := g 2 (by omega)
    have t0 : DataW.trod enc Try.prog W 0 (fun _ => true) true n 23 (([c0, c1, c2].drop 0).take (Try.prog.cellsOf 23)) = xs[0]? := hx 0 _ rfl
    have t1 : DataW.trod enc Try.prog W 0 (fun _ => true) true n 3 (([c0, c1, c2].drop 1).take (Try.prog.cellsOf 3)) = xs[1]? := hx 1 _ rfl
    have t2 : DataW.trod enc Try.prog W 0 (fun _ => true) true n 9 (([c0, c1, c2].drop 2).take (Try.prog.cellsOf 9)) = xs[2]? := hx 2 _ rfl
    rw [e0, cells23] at t0
    rw [e1, cells3] at t1
    rw [e2, cells9'] at t2
    simp only [List.drop_zero, List.drop_succ_cons, List.take_succ_cons, List.take_zero] at t0 t1 t2
    obtain ⟨n0, h0, _, w0⟩ := DataW.trod_int Try.underlying23 t0
    obtain ⟨n1, h1, _, w1⟩ := DataW.trod_int Try.underlying3 t1
    obtain ⟨s2, h2, _, w2⟩ := DataW.trod_string Try.underlying9 t2
    simp only [List.cons.injEq, and_true] at h0 h1 h2
    subst h0 h1 h2
    have v0 := wf_u32 w0
    have v1 := wf_i64 w1
    obtain ⟨m0, rfl⟩ := Int.eq_ofNat_of_zero_le v0.1
    exact ⟨⟨m0, n1, s2⟩, rfl, by have := v0.2; show m0 < 4294967296; omega, v1.1, v1.2, by unfold maxLen at w2; exact w2⟩
end Mo
end Go.Proofs.Ytkbelpkmlmfedaa
