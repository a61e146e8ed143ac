/-
  What the listed package variables hold when the call begins, as the walks read it; how an instruction that comes in is opened.
-/
import Derived.Test.YtmafeekhbcpomaaDoorTie
import Derived.Test.YtmafeekhbcpomaaDoorTa
import Derived.ProofKit
import Derived.LaidMore
import Derived.OpenShut
import Derived.Stop.Joined
import Derived.Lib.LaidTab
namespace Go.Proofs.YtmafeekhbcpomaaDoor
open Go.ChangeShapes Go.WideShapes Go.ChangeAt Go.RowKit
set_option linter.unusedVariables false
theorem gNames : Tryd.prog.globalNamed "hibernacle/isa.names" = some 0 := by kernel_rfl
theorem tNames : (Tryd.prog.globals[0]?).map (·.type) = some 49 := by kernel_rfl
theorem tPow : (Tryd.prog.globals[1]?).map (·.type) = some 75 := by kernel_rfl
theorem strs_trod {H : Type} {enc : TypeId × Value → H} {P : Program} {w : World} {b : Nat} {sp : Nat → Bool} {held : Bool} {fuel : Nat} {t e : TypeId} {n : Nat} {cs : List Value} {L : List (List UInt8)} {q : List MemPlace}
    (ht : P.underlying t = some (.array n e)) (he : P.underlying e = some .string) (c1 : P.cellsOf e = 1) (h : DataW.trod enc P w b sp held fuel t cs = some (.agg (L.map fun l => .lit (.string l)), q)) (i : Nat) (hi : i < n) : cs[i]? = some (.string (st (L.getD i []))) := by
  obtain ⟨xs, m, rfl, hx, _, hn, hel⟩ := DataW.trod_array ht h
  have h1 := hel i hi
  have hxi : i < xs.length := by omega
  rw [List.getElem?_eq_getElem hxi] at h1
  obtain ⟨s, e1, e2, _⟩ := DataW.trod_string he h1
  simp only [Prod.mk.injEq, DataW.agg.injEq] at hx
  have hm := congrArg (fun l => l[i]?) hx.1
  simp only [List.getElem?_map, List.getElem?_eq_getElem hxi, Option.map_some, e2] at hm
  obtain ⟨x, hx1, hx2⟩ := Option.map_eq_some_iff.1 hm
  simp only [DataW.lit.injEq, Lit.string.injEq] at hx2
  have hL : L.getD i [] = x := by rw [List.getD_eq_getElem?_getD, hx1]; rfl
  rw [c1, Nat.mul_one] at e1
  have : (cs.drop i)[0]? = some (.string s) := by
    have := congrArg (fun l => l[0]?) e1
    simpa using this
  rw [List.getElem?_drop] at this
  rw [hL, hx2]
  have hs : st s.data.toList = s := by
    apply ByteArray.ext
    simp [st]
  rw [hs]; simpa using this
def nameL : List (List UInt8) := [[], [97, 100, 100], [115, 117, 98], [109, 117, 108], [100, 105, 118], [114, 101, 109], [97, 110, 100], [111, 114], [120, 111, 114], [115, 104, 108], [115, 104, 114], [115, 97, 114], [115, 108, 116], [115, 108, 116, 117], [97, 100, 100, 105], [97, 110, 100, 105], [111, 114, 105], [120, 111, 114, 105], [115, 108, 116, 105], [108, 117, 105], [108, 119], [108, 98], [108, 98, 117], [115, 119], [115, 98], [98, 101, 113], [98, 110, 101], [98, 108, 116], [98, 108, 116, 117], [106, 97, 108], [106, 97, 108, 114], [115, 121, 115]]
def lay4 {H : Type} : List (String × DataW H) := [("math/bits.deBruijn32tab", Rows.laid_math_bits_deBruijn32tab), ("math/bits.deBruijn64tab", Rows.laid_math_bits_deBruijn64tab), ("internal/strconv.uint64pow10", Rows.laid_internal_strconv_uint64pow10), ("hibernacle/isa.names", Rows.laid_hibernacle_isa_names)]
theorem of_laid {W : World} (h : laidMetH Tryd.prog lay4 W) : Tab W := by
  unfold lay4 at h
  rw [MakeChecks.laidMetH_plain _ _ _ (by kernel_rfl)] at h
  obtain ⟨ps, ⟨g0, t0, cs0, f0, p0, q0, hg0, ht0, hv0, hd0, ⟨g1, t1, cs1, f1, p1, q1, hg1, ht1, hv1, hd1, ⟨g2, t2, cs2, f2, p2, q2, hg2, ht2, hv2, hd2, ⟨g3, t3, cs3, f3, p3, q3, hg3, ht3, hv3, hd3, _, _⟩, _⟩, _⟩, _⟩, _, _⟩ := h
  obtain rfl := Option.some.inj (gPow.symm.trans hg2)
  obtain rfl := Option.some.inj (gNames.symm.trans hg3)
  obtain rfl := Option.some.inj (tPow.symm.trans ht2)
  obtain rfl := Option.some.inj (tNames.symm.trans ht3)
  refine ⟨fun i hi => ?_, ?_⟩
  · rw [World.var?_cell hg3 hv3 i, ← Array.getElem?_toList]
    exact strs_trod (L := nameL) Tryd.underlying49 Tryd.underlying9 (by kernel_rfl) hd3 i hi
  · unfold Lib.TabIs
    rw [hv2]
    have := Lib.cells_of_tab (zs := Lib.pow10Tab) Tryd.underlying75 Tryd.underlying67 (by kernel_rfl) (by kernel_rfl) hd2
    rw [← this]
theorem laidOut : laidOutB Tryd.prog = true := by kernel_rfl
theorem u8_ok {W : World} {base : Nat} {v : Value} (h : Cell.okWide Tryd.prog W .any base 5 v) : ∃ m : Nat, v = .int .u8 (m : Int) ∧ m < 256 := by
  unfold Cell.okWide at h
  rw [Tryd.underlying5] at h
  cases v <;> simp only [Cell.ok, Tryd.underlying5] at h
  obtain ⟨rfl, h⟩ := h
  rename_i n
  simp [IntKind.has, IntKind.min, IntKind.max, IntKind.signed, IntKind.bits] at h
  obtain ⟨m, rfl⟩ := Int.eq_ofNat_of_zero_le h.1
  exact ⟨m, rfl, by omega⟩
theorem i32_ok {W : World} {base : Nat} {v : Value} (h : Cell.okWide Tryd.prog W .any base 21 v) : ∃ m : Int, v = .int .i32 m ∧ -2147483648 ≤ m ∧ m ≤ 2147483647 := by
  unfold Cell.okWide at h
  rw [Tryd.underlying21] at h
  cases v <;> simp only [Cell.ok, Tryd.underlying21] at h
  obtain ⟨rfl, h⟩ := h
  rename_i n
  simp [IntKind.has, IntKind.min, IntKind.max, IntKind.signed, IntKind.bits] at h
  exact ⟨n, rfl, by omega⟩
theorem okIns {W : World} {base : Nat} {v : Value} (h : Value.okWide Tryd.prog W .any base 23 v) : ∃ x : Is.Ins, v = .agg (ic x) ∧ x.Ok := by
  simp only [Value.okWide, Tryd.underlying23] at h
  obtain ⟨cs, rfl, hsz, ts, hts', _, hcell⟩ := h
  rw [show Tryd.prog.cellTypes Tryd.prog.depth 23 = some [5, 5, 5, 5, 21] from by kernel_rfl] at hts'
  cases hts'
  have hs : cs.size = 5 := by rw [hsz]; kernel_rfl
  have get : ∀ i, i < 5 → ∃ v, cs[i]? = some v ∧ ∃ u, [5, 5, 5, 5, 21][i % 5]? = some u ∧ Cell.okWide Tryd.prog W .any base u v := fun i hi => by
    have : i < cs.size := by omega
    exact ⟨cs[i], by simp [this], hcell i cs[i] (by simp [this])⟩
  obtain ⟨v0, e0, u0, f0, g0⟩ := get 0 (by omega)
  obtain ⟨v1, e1, u1, f1, g1⟩ := get 1 (by omega)
  obtain ⟨v2, e2, u2, f2, g2⟩ := get 2 (by omega)
  obtain ⟨v3, e3, u3, f3, g3⟩ := get 3 (by omega)
  obtain ⟨v4, e4, u4, f4, g4⟩ := get 4 (by omega)
  cases f0; cases f1; cases f2; cases f3; cases f4
  obtain ⟨o, rfl, ho⟩ := u8_ok g0
  obtain ⟨a, rfl, ha⟩ := u8_ok g1
  obtain ⟨b, rfl, hb⟩ := u8_ok g2
  obtain ⟨c, rfl, hc⟩ := u8_ok g3
  obtain ⟨m, rfl, hm1, hm2⟩ := i32_ok g4
  refine ⟨⟨o, a, b, c, m⟩, ?_, ho, ha, hb, hc, hm1, hm2⟩
  congr 1
  apply Array.ext_getElem?
  intro i
  rcases (by omega : i = 0 ∨ i = 1 ∨ i = 2 ∨ i = 3 ∨ i = 4 ∨ 5 ≤ i) with rfl | rfl | rfl | rfl | rfl | hi
  · exact e0
  · exact e1
  · exact e2
  · exact e3
  · exact e4
  · rw [Array.getElem?_eq_none (by omega), Array.getElem?_eq_none (by simpa [ic] using hi)]
theorem nat_u8 {n : Int} (h : (Lit.int .u8 n).wf = true) : ∃ m : Nat, n = (m : Int) ∧ m < 256 := by
  simp [Lit.wf, IntKind.min, IntKind.max, IntKind.signed, IntKind.bits] at h
  obtain ⟨m, rfl⟩ := Int.eq_ofNat_of_zero_le h.1
  exact ⟨m, rfl, by omega⟩
theorem nat_u32 {n : Int} (h : (Lit.int .u32 n).wf = true) : ∃ m : Nat, n = (m : Int) ∧ m < 4294967296 := by
  simp [Lit.wf, IntKind.min, IntKind.max, IntKind.signed, IntKind.bits] at h
  obtain ⟨m, rfl⟩ := Int.eq_ofNat_of_zero_le h.1
  exact ⟨m, rfl, by omega⟩
theorem int_i32 {n : Int} (h : (Lit.int .i32 n).wf = true) : -2147483648 ≤ n ∧ n ≤ 2147483647 := by
  simp [Lit.wf, IntKind.min, IntKind.max, IntKind.signed, IntKind.bits] at h
  omega
end Go.Proofs.YtmafeekhbcpomaaDoor
