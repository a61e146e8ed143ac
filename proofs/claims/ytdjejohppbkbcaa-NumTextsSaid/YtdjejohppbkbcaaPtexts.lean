/-
  For every text of any bytes the law NumTexts of package num returns true and leaves its argument as it was; there is no condition.
-/
import Derived.Test.YtdjejohppbkbcaaRows
import Derived.WalkKit
import Derived.ProofKit
import Derived.OpenShut
import Derived.ShutString
import Derived.Below
import Derived.Test.YtdjejohppbkbcaaNa
import Derived.Test.YtdjejohppbkbcaaNs
namespace Go.Proofs.Ytdjejohppbkbcaa.numTexts
open Go.ChangeShapes Go.WideShapes Go.ChangeAt Go.RowKit
open Go.ChangeMaps (open_string shut_string)
set_option linter.unusedVariables false

theorem own : ownKnob Try.prog.godebug = none := by kernel_rfl

open Go.Proofs.Ytdjejohppbkbcaa Go.Proofs.Ytdjejohppbkbcaa.Nm in
theorem room_le_bulk : ∀ l : List ByteArray, room l ≤ 5 * bulk l
  | [] => by simp [room, bulk]
  | s :: l => by
    have e : room (s :: l) = s.size + 5 + room l := by simp [room]
    have e2 : bulk (s :: l) = s.size + 1 + bulk l := by simp [bulk]
    have := room_le_bulk l
    omega
open Go.Proofs.Ytdjejohppbkbcaa Go.Proofs.Ytdjejohppbkbcaa.Nm in
theorem bulk_le_row : ∀ l : List ByteArray, bulk l ≤ (Nu.rowB (l.map toL)).length
  | [] => by simp [bulk]
  | s :: l => by
    have e2 : bulk (s :: l) = s.size + 1 + bulk l := by simp [bulk]
    have := bulk_le_row l
    have h := Nu.lenB_pos (toL s).length
    rw [List.map_cons, Nu.rowB_cons, List.length_append, List.length_append, toL_length] at *
    omega
open Go.Proofs.Ytdjejohppbkbcaa Go.Proofs.Ytdjejohppbkbcaa.Nm in
theorem len_le_bulk : ∀ l : List ByteArray, l.length ≤ bulk l
  | [] => by simp [bulk]
  | s :: l => by
    have e2 : bulk (s :: l) = s.size + 1 + bulk l := by simp [bulk]
    have := len_le_bulk l
    simp
    omega
theorem txA_bad : ∀ (f : Nat) (acc : List (List UInt8)) (b : List UInt8), (Nu.txA f acc b).2 ≠ 0 → (Nu.txA f acc b).1 = []
  | 0, _, _, h => absurd rfl h
  | f + 1, acc, b, h => by
    by_cases hb : b = []
    · subst hb
      rw [Nu.txA_nil (by omega)] at h
      exact absurd rfl h
    · by_cases h1 : (Nu.glen b).2.2 = 0
      · by_cases h2 : (b.drop (Nu.glen b).2.1).length < (Nu.glen b).1
        · rw [Nu.txA_short (by omega) hb h1 h2]
        · rw [Nu.txA_next hb h1 h2] at h ⊢
          exact txA_bad f _ _ h
      · rw [Nu.txA_err (by omega) hb h1]
open Go.Proofs.Ytdjejohppbkbcaa Go.Proofs.Ytdjejohppbkbcaa.Nm in
set_option maxRecDepth 100000 in
set_option maxHeartbeats 2000000 in
theorem walk (b : ByteArray) (w0 : b.size ≤ maxLen) (w : World) :
    Calls Try.prog 4 #[.string b] w fun e w' => e = .returned (.bool true) ∧ Below w.heap.size w w' := by
  have hs : b.size ≤ 9223372036854775807 := by unfold maxLen at w0; omega
  clear w0
  by_cases h1 : 5000 < b.size
  · go_enter Try.func4, Try.ntmps4
    go_wp2_with fail
    refine (alive_any _).mono ?_
    rintro e w1 ⟨rfl, hb⟩
    go_wp2_with fail
    go_ret
    exact ⟨rfl, hb⟩
  · have hrow : (Nu.texts (toL b)).2 = 0 → Nu.rowB (Nu.texts (toL b)).1 = toL b := fun h => Nu.texts_ok (Prod.ext rfl h)
    have HR := Lib.hid hrow
    clear hrow
    have hbad : (Nu.texts (toL b)).2 ≠ 0 → (Nu.texts (toL b)).1 = [] := txA_bad _ _ _
    have HBAD := Lib.hid hbad
    clear hbad
    generalize hE : (Nu.texts (toL b)).2 = E at *
    have HE := Lib.hid hE
    clear hE
    go_enter Try.func4, Try.ntmps4
    go_wp2_with fail
    refine (alive_any _).mono ?_
    rintro e w1 ⟨rfl, hb⟩
    go_wp2_with fail
    refine (texts_any b _ (by omega)).mono ?_
    rintro e w2 ⟨A, c, l, he, t2, m2, hb2⟩
    rw [HE.out] at he
    rw [he]
    clear he
    go_wp2_with fail
    refine (rtexts_any b _ (by omega)).mono ?_
    rintro e w3 ⟨A', c', l', he, t3, m3, hb3⟩
    rw [HE.out] at he
    rw [he]
    clear he
    have hll : l = l' := map_toL_inj (m2.trans m3.symm)
    subst hll
    have t23 := t2.below hb3
    have hbulk : E = 0 → bulk l ≤ 5000 := by
      intro h
      have h2 := bulk_le_row l
      rw [m2, HR.out h, toL_length] at h2
      omega
    have hlen : l.length ≤ 5000 := by
      by_cases h0 : E = 0
      · exact Nat.le_trans (len_le_bulk l) (hbulk h0)
      · have h2 := congrArg List.length m2
        rw [HBAD.out h0] at h2
        simp at h2
        rw [h2]
        simp
    have M2 := Lib.hid m2
    clear m2 m3
    by_cases h0 : E = 0
    · have hb5 := hbulk h0
      have hrm := room_le_bulk l
      have hrow : (⟨(Nu.rowB (l.map toL)).toArray⟩ : ByteArray) = b := by rw [M2.out, HR.out h0, str_eta]
      have HROW := Lib.hid hrow
      clear hrow hbulk HE
      subst h0
      go_wp2_with fail
      refine (same_any _ _ _ _ _ _ l l _ t23 t3 (by omega) (by omega)).mono ?_
      rintro e w4 ⟨rfl, hd4⟩
      go_wp2_with fail
      refine (row_any _ _ _ l _ (t23.dr hd4) (by omega) (by omega)).mono ?_
      rw [HROW.out]
      rintro e w5 ⟨rfl, hb5'⟩
      go_wp2_with fail
      go_ret
      have z3 := (hb.trans (hb2.mono hb.size)).trans (hb3.mono (Nat.le_trans hb.size hb2.size))
      exact ⟨rfl, (below_dr z3 hd4).trans (hb5'.mono (below_dr z3 hd4).size)⟩
    · have t0 : ((E : Int) != 0) = true := by rw [bne_iff_ne]; omega
      clear h0 hbulk HE
      go_wp2_with fail
      refine (same_any _ _ _ _ _ _ l l _ t23 t3 (by omega) (by omega)).mono ?_
      rintro e w4 ⟨rfl, hd4⟩
      go_wp2_with fail
      go_ret
      have z3 := (hb.trans (hb2.mono hb.size)).trans (hb3.mono (Nat.le_trans hb.size hb2.size))
      exact ⟨rfl, below_dr z3 hd4⟩

set_option maxRecDepth 100000 in
theorem lifted (os : Os) (started : os.Started) (H : Type) (enc : TypeId × Value → H) :
    ReturnsInHanded {} Try.checked os 4 .any (Rows.numTextsSpec.pre6 enc Try.prog Try.f4 Rows.numTextsRow.domain false) (Rows.numTextsSpec.post enc Try.prog Try.f4 false true false false) := by
  refine returnsInHanded_of_change (C := Try.checked) own started (by kernel_rfl) Try.func4
    (ChangeSpec.witness6 (enc := enc) (C := Try.checked) false ⟨#[], #[.string ByteArray.empty], []⟩ 8 (by kernel_rfl) (by kernel_rfl) (by kernel_rfl) (by kernel_rfl)) ?_
  intro W base args ds gs before hval0 hW hcnd _
  have hval : ∀ (j : Nat) t v, Try.f4.params[j]? = some t → args[j]? = some v → Value.okWide Try.prog W .any base t v := hval0
  have hW' := hW
  obtain ⟨p, q, hA0, hV, rfl, hfz, hnd⟩ := hW
  have hA : DataW.TrodAll enc Try.prog W 0 (fun _ => true) true Try.f4.params.toList args.toList ds p := hA0
  rw [Try.params4] at hA hval
  obtain ⟨v0, vs0, d0, ds0, p0, q0, hargs, rfl, rfl, h0, r0⟩ := trodAll_cons hA
  obtain ⟨rfl, rfl, rfl⟩ := trodAll_nil r0
  obtain rfl : args = #[v0] := by cases args; simp_all
  obtain ⟨rfl, rfl⟩ := trodVars_none hV
  obtain ⟨a0, rfl, rfl, rfl, w0⟩ := open_string Try.underlying9 (hval 0 9 v0 rfl rfl) h0
  clear hA0 hval0
  refine (walk a0 w0 W).mono fun e W' ⟨he, bel⟩ => ?_
  subst he
  exact ⟨_, rfl, _, _, _, [], _, [], hW', trodAll_mk1 (shut_bool Try.underlying4 _), (trodAll_cons_mk (shut_string Try.underlying9 w0) trodAll_mk0), rfl, bel.frame _, fun h => by cases h⟩

theorem over : Rows.numTextsRow.holds Try.pinned (OpenSpec.ofChange Rows.numTextsSpec) :=
  OpenClaim.holds_of_wide 4 Try.f4 rfl rfl rfl rfl rfl rfl rfl ⟨rfl, rfl, rfl, rfl, rfl⟩ rfl rfl rfl rfl rfl (by kernel_rfl) Try.func4 (by kernel_rfl)
    (of_decide_eq_true (by kernel_rfl)) (by unfold Func.isWrapper; first | (rw [if_pos (by decide +kernel)]; kernel_rfl) | (rw [if_neg (by decide +kernel)]; exact ⟨rfl, rfl⟩))
    (fun os started H enc _ => lifted os started H enc)

/-- the statement -/
theorem proved : Rows.NumTextsSaid :=
  over
end Go.Proofs.Ytdjejohppbkbcaa.numTexts
