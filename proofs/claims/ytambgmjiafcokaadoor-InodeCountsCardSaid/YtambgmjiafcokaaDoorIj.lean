/-
  THE WALK of where an inode lies (inode.where).
-/
import Derived.Test.YtambgmjiafcokaaDoorIv
namespace Go.Proofs.YtambgmjiafcokaaDoor
set_option linter.unusedVariables false
set_option maxRecDepth 100000
set_option linter.unusedSimpArgs false
open Go.RowKit
namespace Dw
open _root_.Go.Proofs.YtambgmjiafcokaaDoor.Nm
/-- where an inode lies -/
def WhereIs (l : List ByteArray) (n : Int) (e : Ending) : Prop :=
  ((∀ b m, ¬ Vol l b m) ∧ e = .returned (.tuple #[.int .i64 0, .int .i64 0, .int .i64 3])) ∨
  (∃ b m, Vol l b m ∧ (n < 1 ∨ (m : Int) < n) ∧ e = .returned (.tuple #[.int .i64 0, .int .i64 0, .int .i64 2])) ∨
  (∃ b m j : Nat, Vol l b m ∧ n = ((j : Nat) : Int) ∧ 1 ≤ j ∧ j ≤ m ∧ e = .returned (.tuple #[.int .i64 (bk j : Nat), .int .i64 (pl j : Nat), .int .i64 0]))
set_option maxHeartbeats 1000000 in
theorem where_any (A : Option Addr) (m c : Nat) (l : List ByteArray) (n : Int) (w : World) (hl : Tz w A m c l) (hL : Lit l m) :
    Calls Tryd.prog 23 #[.slice A m c, .int .i64 n] w fun e w' => WhereIs l n e ∧ Below w.heap.size w w' := by
  go_enter Tryd.func23, Tryd.ntmps23
  go_wp2_with fail
  refine (of_any A m c l _ hl hL).mono ?_
  rintro e w1 ⟨hof, hx⟩
  have og := Nm.Own.new w1 58 gz
  have hb2 := hx.trans ((grow w1 (Obj.cells gz 58)).mono hx.size)
  rcases hof with ⟨b, y, hv, rfl⟩ | ⟨hv, rfl⟩
  · have HV := Lib.hid hv
    go_wp2_with (refine sto24 (cs := gc b y) rfl rfl rfl rfl og (gc_one _ _) gz_one ?_)
    intro w5 o5 s5
    have hb5 := s5.below hb2 hx.size
    clear hx hb2 og s5
    generalize w1.heap.size = g at *
    have d1 : w5.cell? ⟨g, 1, none⟩ = some (.int .i64 (y : Int)) := o5.cell 1
    have d4 : w5.cell? ⟨g, 4, none⟩ = some (.int .i64 3) := o5.cell 4
    have hy := hv.lt
    clear hv o5 hL hl
    by_cases h1 : n < 1
    · have HN := Lib.hid h1
      go_wp2_with fail
      refine bodyPost_ret (v := .tuple #[.int .i64 0, .int .i64 0, .int .i64 2]) (by simp [results, Tryd.results23, go_sem]) rfl ?_
      exact ⟨.inr (.inl ⟨b, y, HV.out, .inl HN.out, rfl⟩), hb5⟩
    · by_cases h2 : (y : Int) < n
      · have HN := Lib.hid h2
        go_wp2_with fail
        refine bodyPost_ret (v := .tuple #[.int .i64 0, .int .i64 0, .int .i64 2]) (by simp [results, Tryd.results23, go_sem]) rfl ?_
        exact ⟨.inr (.inl ⟨b, y, HV.out, .inr HN.out, rfl⟩), hb5⟩
      · obtain ⟨j, rfl⟩ := Int.eq_ofNat_of_zero_le (show 0 ≤ n by omega)
        have HJ := Lib.hid (show 1 ≤ j ∧ j ≤ y by omega)
        obtain ⟨q, hq⟩ : ∃ q, q = j - 1 := ⟨_, rfl⟩
        have e1 : IntKind.i64.wrap ((j : Int) - 1) = (q : Int) := by rw [IntWalk.i64_in _ (by omega)]; omega
        have e2 : (q : Int).tdiv 2 = ((q / 2 : Nat) : Int) := rfl
        have e2' : (q : Int) / 2 = ((q / 2 : Nat) : Int) := rfl
        have e3 : (q : Int).tmod 2 = ((q % 2 : Nat) : Int) := rfl
        have e3' : (q : Int) % 2 = ((q % 2 : Nat) : Int) := rfl
        have HB := Lib.hid (show bk j = 3 + q / 2 ∧ pl j = 64 * (q % 2) from ⟨by unfold bk; rw [hq], by unfold pl; rw [hq]⟩)
        have hQ2 : q / 2 < 64 := by omega
        have hR2 : q % 2 < 2 := by omega
        generalize q / 2 = Q at *
        generalize q % 2 = R at *
        have f1 : IntKind.i64.wrap (Q : Int) = (Q : Int) := IntWalk.i64_in _ (by omega)
        have f2 : IntKind.i64.wrap (3 + (Q : Int)) = 3 + (Q : Int) := IntWalk.i64_in _ (by omega)
        have f3 : IntKind.i64.wrap (R : Int) = (R : Int) := IntWalk.i64_in _ (by omega)
        have f4 : IntKind.i64.wrap (64 * (R : Int)) = 64 * (R : Int) := IntWalk.i64_in _ (by omega)
        clear hq
        go_wp2_with fail
        refine bodyPost_ret (v := .tuple #[.int .i64 (3 + (Q : Int)), .int .i64 (64 * (R : Int)), .int .i64 0]) (by simp [results, Tryd.results23, go_sem]) rfl ?_
        exact ⟨.inr (.inr ⟨b, y, j, HV.out, rfl, HJ.out.1, HJ.out.2, by rw [HB.out.1, HB.out.2]; simp⟩), hb5⟩
  · have HV := Lib.hid hv
    clear hv
    go_wp2_with (refine sto24 (cs := gz) rfl rfl rfl rfl og gz_one gz_one ?_)
    intro w5 o5 s5
    have hb5 := s5.below hb2 hx.size
    clear hx hb2 og s5 o5
    go_wp2_with fail
    refine bodyPost_ret (v := .tuple #[.int .i64 0, .int .i64 0, .int .i64 3]) (by simp [results, Tryd.results23, go_sem]) rfl ?_
    exact ⟨.inl ⟨HV.out, rfl⟩, hb5⟩
end Dw
end Go.Proofs.YtambgmjiafcokaaDoor
