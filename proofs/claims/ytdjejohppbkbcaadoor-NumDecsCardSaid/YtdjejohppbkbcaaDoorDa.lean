/-
  What the listed package variables hold when the call begins; they stay so. THE WALKS of the code's Dec and Int.
-/
import Derived.Test.YtdjejohppbkbcaaDoorTie
import Derived.Test.YtdjejohppbkbcaaDoorSh
import Derived.Test.YtdjejohppbkbcaaDoorDm
import Derived.Test.YtdjejohppbkbcaaDoorNt
import Derived.ProofKit
import Derived.LaidMore
import Derived.LaidLaws
import Derived.OpenShut
import Derived.Stop.Joined
import Derived.Lib.LaidTab
import Derived.Lib.SmallJoins
import Derived.Lib.ParseIntBTie
namespace Go.Proofs.YtdjejohppbkbcaaDoor
open Go.ChangeShapes Go.WideShapes Go.ChangeAt Go.RowKit
set_option linter.unusedVariables false
set_option linter.unusedSimpArgs false
theorem gSyn : Tryd.prog.globalNamed "strconv.ErrSyntax" = some 0 := by kernel_rfl
theorem gRng : Tryd.prog.globalNamed "strconv.ErrRange" = some 1 := by kernel_rfl
theorem gPow : Tryd.prog.globalNamed "internal/strconv.uint64pow10" = some 2 := by kernel_rfl
theorem tSyn : (Tryd.prog.globals[0]?).map (·.type) = some 35 := by kernel_rfl
theorem tRng : (Tryd.prog.globals[1]?).map (·.type) = some 35 := by kernel_rfl
theorem tPow : (Tryd.prog.globals[2]?).map (·.type) = some 77 := by kernel_rfl
def lay5 {H : Type} : List (String × DataW H) := [("math/bits.deBruijn32tab", Rows.laid_math_bits_deBruijn32tab), ("math/bits.deBruijn64tab", Rows.laid_math_bits_deBruijn64tab), ("internal/strconv.uint64pow10", Rows.laid_internal_strconv_uint64pow10), ("strconv.ErrRange", Rows.laid_strconv_ErrRange), ("strconv.ErrSyntax", Rows.laid_strconv_ErrSyntax)]
structure Tb (w : World) : Prop where
  syn : ∃ te pe, w.cell? ⟨0, 0, none⟩ = some (.iface te pe)
  rng : ∃ te pe, w.cell? ⟨1, 0, none⟩ = some (.iface te pe)
  pow : Lib.TabIs Tryd.prog w "internal/strconv.uint64pow10" .u64 Lib.pow10Tab
theorem Tb.below {w w' : World} (h : Tb w) (hx : Below w.heap.size w w') : Tb w' := by
  obtain ⟨⟨a, b, h0⟩, ⟨c, d, h1⟩, h2⟩ := h
  exact ⟨⟨a, b, (hx.cell (World.block_lt_of_cell? _ _ h0)).trans h0⟩, ⟨c, d, (hx.cell (World.block_lt_of_cell? _ _ h1)).trans h1⟩, Joins.tab_stays gPow h2 hx (Nat.le_refl _)⟩
theorem of_laid {W : World} (h : laidMetH Tryd.prog lay5 W) : Tb W := by
  unfold lay5 at h
  rw [MakeChecks.laidMetH_plain _ _ _ (by kernel_rfl)] at h
  obtain ⟨ps, ⟨g0, t0, cs0, f0, p0, q0, hg0, ht0, hv0, hd0, ⟨g1, t1, cs1, f1, p1, q1, hg1, ht1, hv1, hd1, ⟨g2, t2, cs2, f2, p2, q2, hg2, ht2, hv2, hd2, ⟨g3, t3, cs3, f3, p3, q3, hg3, ht3, hv3, hd3, ⟨g4, t4, cs4, f4, p4, q4, hg4, ht4, hv4, hd4, _, _⟩, _⟩, _⟩, _⟩, _⟩, _, _⟩ := h
  obtain rfl := Option.some.inj (gPow.symm.trans hg2)
  obtain rfl := Option.some.inj (gRng.symm.trans hg3)
  obtain rfl := Option.some.inj (gSyn.symm.trans hg4)
  obtain rfl := Option.some.inj (tPow.symm.trans ht2)
  obtain rfl := Option.some.inj (tRng.symm.trans ht3)
  obtain rfl := Option.some.inj (tSyn.symm.trans ht4)
  refine ⟨?_, ?_, ?_⟩
  · obtain ⟨f1, u, v, e, hn, h1⟩ := iface_of_trod Tryd.underlying35 hd4
    refine ⟨u, v, ?_⟩
    rw [World.var?_cell hg4 hv4 0, ← Array.getElem?_toList, e]
    rfl
  · obtain ⟨f1, u, v, e, hn, h1⟩ := iface_of_trod Tryd.underlying35 hd3
    refine ⟨u, v, ?_⟩
    rw [World.var?_cell hg3 hv3 0, ← Array.getElem?_toList, e]
    rfl
  · unfold Lib.TabIs
    rw [hv2]
    have := Lib.cells_of_tab (zs := Lib.pow10Tab) Tryd.underlying77 Tryd.underlying33 (by kernel_rfl) (by kernel_rfl) hd2
    rw [← this]
theorem below_gr (w : World) (n : Nat) (os : Array Obj) : Below w.heap.size w (Sort.grow (w.drewN n) os) :=
  ⟨rfl, rfl, rfl, by show w.heap.size ≤ (w.heap ++ os).size; rw [Array.size_append]; omega, fun _ hj => Sort.heap_grow_old (w.drewN n) os hj⟩
open Dm in
theorem dec_any (n : Int) (hn : In n) (w : World) (T : Tb w) : Calls Tryd.prog 7 #[.int .i64 n] w fun e w' => e = .returned (.string ⟨(Lib.itoa n).toArray⟩) ∧ Below w.heap.size w w' := by
  have h := Tryd.strconv_FormatInt_10 n hn.1 hn.2 w T.pow
  go_enter Tryd.func7, Tryd.ntmps7
  go_wp2_with fail
  refine h.mono ?_
  rintro e w1 ⟨rfl, k, os, rfl⟩
  go_wp2_with fail
  go_ret
  exact ⟨rfl, below_gr w k os⟩
def IntIs (m : Int) (b : Bool) (e : Ending) : Prop := e = .returned (.tuple #[.int .i64 m, .bool b])
open Dm in
/-- a numeral is read as its number -/
theorem int_yes (m : Int) (hm : In m) (w : World) (T : Tb w) : Calls Tryd.prog 5 #[.string ⟨(Lib.itoa m).toArray⟩] w fun e w' => e = .returned (.tuple #[.int .i64 m, .bool true]) ∧ Below w.heap.size w w' := by
  have hl := itoa_len hm
  have hsz : (⟨(Lib.itoa m).toArray⟩ : ByteArray).size = (Lib.itoa m).length := by simp [ByteArray.size]
  have h := Tryd.strconv_ParseInt_10_at64_ok ⟨(Lib.itoa m).toArray⟩ (by rw [hsz]; omega) m (parse_itoa m hm.1 hm.2) w
  have hd := fun w T => dec_any m hm w T
  clear hl hsz
  have HM := Lib.hid hm
  clear hm
  generalize (⟨(Lib.itoa m).toArray⟩ : ByteArray) = s at *
  go_enter Tryd.func5, Tryd.ntmps5
  go_wp2_with fail
  refine h.mono ?_
  rintro e w1 ⟨rfl, hW⟩
  have hb : Below w.heap.size w w1 := by
    rcases hW with rfl | ⟨t, rfl⟩
    · exact Below.refl _ _
    · exact Lib.bytesWorld_below _ _ _
  clear hW
  have T1 := T.below hb
  go_wp2_with fail
  refine (hd _ T1).mono ?_
  rintro e w2 ⟨rfl, hb2⟩
  go_wp2_with fail
  go_ret2
  exact ⟨rfl, hb.trans (hb2.mono hb.size)⟩
open Dm in
/-- what is no numeral isn't read -/
theorem int_no (s : ByteArray) (hs : s.size ≤ 2000) (hno : ∀ m, In m → s ≠ ⟨(Lib.itoa m).toArray⟩) (w : World) (T : Tb w) : Calls Tryd.prog 5 #[.string s] w fun e w' => e = .returned (.tuple #[.int .i64 0, .bool false]) ∧ Below w.heap.size w w' := by
  rcases hp : Lib.parseIntB 64 s.data.toList with v | _ | _
  · have hv : In v := by
      have := Lib.parseIntB_bounds hp
      rw [show (2 : Nat) ^ (64 - 1) = 9223372036854775808 from by decide] at this
      unfold In
      omega
    have h := Tryd.strconv_ParseInt_10_at64_ok s (by omega) v hp w
    have hd := fun w T => dec_any v hv w T
    have hne := hno v hv
    have HV := Lib.hid hv
    clear hp hno hv
    generalize (⟨(Lib.itoa v).toArray⟩ : ByteArray) = z at *
    have n1 : (z.toList == s.toList) = false := by
      rw [beq_eq_false_iff_ne]
      intro e
      exact hne (by apply ByteArray.ext; apply Array.ext'; rw [← Go.ByteArray.toList_eq, ← Go.ByteArray.toList_eq]; exact e.symm)
    have HN := Lib.hid hne
    clear hne
    go_enter Tryd.func5, Tryd.ntmps5
    go_wp2_with fail
    refine h.mono ?_
    rintro e w1 ⟨rfl, hW⟩
    have hb : Below w.heap.size w w1 := by
      rcases hW with rfl | ⟨t, rfl⟩
      · exact Below.refl _ _
      · exact Lib.bytesWorld_below _ _ _
    clear hW
    have T1 := T.below hb
    go_wp2_with fail
    refine (hd _ T1).mono ?_
    rintro e w2 ⟨rfl, hb2⟩
    go_wp2_with fail
    go_ret2
    exact ⟨rfl, hb.trans (hb2.mono hb.size)⟩
  · obtain ⟨te, pe, h0⟩ := T.syn
    have h := Any.strconv_ParseInt_10_at64_syntax Tryd.laysC174 s (by omega) hp _ w h0 (.inr ⟨te, pe, rfl⟩)
    clear hp hno
    go_enter Tryd.func5, Tryd.ntmps5
    go_wp2_with fail
    refine h.mono ?_
    rintro e w1 ⟨N, rfl, -, -, hb⟩
    go_wp2_with fail
    go_ret2
    exact ⟨rfl, hb⟩
  · obtain ⟨te, pe, h0⟩ := T.rng
    have h := Tryd.strconv_ParseInt_10_at64_range s (by omega) hp _ w h0 (.inr ⟨te, pe, rfl⟩)
    clear hp hno
    go_enter Tryd.func5, Tryd.ntmps5
    go_wp2_with fail
    refine h.mono ?_
    rintro e w1 ⟨N, rfl, -, -, hb⟩
    go_wp2_with fail
    go_ret2
    exact ⟨rfl, hb⟩
end Go.Proofs.YtdjejohppbkbcaaDoor
