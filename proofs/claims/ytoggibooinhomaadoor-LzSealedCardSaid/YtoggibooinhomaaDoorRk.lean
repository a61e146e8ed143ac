/-
  THE WALK of a block that is taken in, of the document's answer.
-/
import Derived.Test.YtoggibooinhomaaDoorTk
import Derived.Test.YtoggibooinhomaaDoorEr
import Derived.Test.YtoggibooinhomaaDoorRm
import Derived.RegionTactic
import Derived.BigRegion
namespace Go.Proofs.YtoggibooinhomaaDoor
set_option linter.unusedVariables false
set_option linter.unusedSimpArgs false
open Go.RowKit
theorem sg_lt : ∀ r, r < 10 → ∀ i, i < 16 → Bl.sg r i < 16 := by decide +kernel
theorem sign_le {x : Nat} (h : x < 16) : 48 ≤ Bl.sign x ∧ Bl.sign x < 256 := by unfold Bl.sign; split <;> omega
theorem Own.belowSet {B g : Nat} {a w : World} (h : Below B a w) (hg : B ≤ g) (i : Nat) (u : Value) : Below B a (w.setCell ⟨g, i, none⟩ u) := h.setCell hg u
/-- the blocks of a call of the document's 'take' -/
structure RkIs (w wr : World) (B g : Nat) (H V M : List Nat) : Prop where
  h : Own wr B 54 (vs .u32 H)
  r : Own wr (B + 1) 54 (vs .u32 (List.replicate 8 0))
  v : Own wr (B + 1 + 1) 74 (vs .u32 V)
  m : Own wr (B + 1 + 1 + 1) 74 (vs .u32 M)
  f : Own wr g 54 (vs .u32 Bl.iv)
  b : Below B w wr
theorem RkIs.setv {w wr : World} {B g : Nat} {H V M : List Nat} (o : RkIs w wr B g H V M) (hg : B + 3 < g) (i x : Nat) : RkIs w (wr.setCell ⟨B + 1 + 1, i, none⟩ (.int .u32 (x : Int))) B g H (V.set i x) M :=
  ⟨o.h.other _ _ (by simp <;> omega), o.r.other _ _ (by simp <;> omega), o.v.set i x, o.m.other _ _ (by simp <;> omega), o.f.other _ _ (by simp <;> omega), o.b.setCell (by simp <;> omega) _⟩
theorem RkIs.setm {w wr : World} {B g : Nat} {H V M : List Nat} (o : RkIs w wr B g H V M) (hg : B + 3 < g) (i x : Nat) : RkIs w (wr.setCell ⟨B + 1 + 1 + 1, i, none⟩ (.int .u32 (x : Int))) B g H V (M.set i x) :=
  ⟨o.h.other _ _ (by simp <;> omega), o.r.other _ _ (by simp <;> omega), o.v.other _ _ (by simp <;> omega), o.m.set i x, o.f.other _ _ (by simp <;> omega), o.b.setCell (by simp <;> omega) _⟩
theorem RkIs.seth {w wr : World} {B g : Nat} {H V M : List Nat} (o : RkIs w wr B g H V M) (hg : B + 3 < g) (i x : Nat) : RkIs w (wr.setCell ⟨B, i, none⟩ (.int .u32 (x : Int))) B g (H.set i x) V M :=
  ⟨o.h.set i x, o.r.other _ _ (by simp <;> omega), o.v.other _ _ (by simp <;> omega), o.m.other _ _ (by simp <;> omega), o.f.other _ _ (by simp <;> omega), o.b.setCell (by simp <;> omega) _⟩
theorem RkIs.drew {w wr : World} {B g : Nat} {H V M : List Nat} (o : RkIs w wr B g H V M) : RkIs w wr.drew B g H V M := ⟨o.h.drew, o.r.drew, o.v.drew, o.m.drew, o.f.drew, o.b.drew⟩
theorem RkIs.lt {w wr : World} {B g : Nat} {H V M : List Nat} (o : RkIs w wr B g H V M) (hg : B + 3 < g) : B + 3 < wr.heap.size := Nat.lt_trans hg o.f.lt
theorem RkIs.below {w wr w1 : World} {B g : Nat} {H V M : List Nat} (o : RkIs w wr B g H V M) (hg : B + 3 < g) (hx : Below wr.heap.size wr w1) : RkIs w w1 B g H V M :=
  have l := o.lt hg
  have := o.f.lt
  ⟨Below.own hx o.h (by omega), Below.own hx o.r (by omega), Below.own hx o.v (by omega), Below.own hx o.m (by omega), Below.own hx o.f (by omega), o.b.trans (hx.mono (by omega))⟩
theorem RkIs.row {w wr : World} {B g : Nat} {H V M : List Nat} (o : RkIs w wr B g H V M) (hg : B + 3 < g) (V' : List Nat) : RkIs w (wr.setRow (B + 1 + 1) (vs .u32 V')) B g H V' M :=
  ⟨o.h.rowOther _ _ (by omega), o.r.rowOther _ _ (by omega), o.v.row _, o.m.rowOther _ _ (by omega), o.f.rowOther _ _ (by omega), below_row o.b (by omega) _⟩
theorem RkIs.drewN {w wr : World} {B g : Nat} {H V M : List Nat} (o : RkIs w wr B g H V M) (n : Nat) : RkIs w (wr.drewN n) B g H V M := ⟨o.h, o.r, o.v, o.m, o.f, o.b.trans ⟨rfl, rfl, rfl, Nat.le_refl _, fun _ _ => rfl⟩⟩
theorem mixes_lo (m : List Nat) (r : Nat) (v : List Nat) {i : Nat} (h : i < 4) : Bl.mixes m r v (i + 1) = Bl.mixL (Bl.mixes m r v i) i (i + 4) (i + 8) (i + 12) (Bl.nth m (Bl.sg r (2 * i))) (Bl.nth m (Bl.sg r (2 * i + 1))) := by
  rw [Bl.mixes, show i % 4 = i from by omega, show Bl.pb i = i + 4 from by unfold Bl.pb; omega, show Bl.pc i = i + 8 from by unfold Bl.pc; omega, show Bl.pd i = i + 12 from by unfold Bl.pd; omega]
theorem mixes_hi (m : List Nat) (r : Nat) (v : List Nat) {i k : Nat} (h : i = k + 4) (hk : k < 4) : Bl.mixes m r v (i + 1) = Bl.mixL (Bl.mixes m r v i) k (4 + (k + 1) % 4) (8 + (k + 2) % 4) (12 + (k + 3) % 4) (Bl.nth m (Bl.sg r (2 * i))) (Bl.nth m (Bl.sg r (2 * i + 1))) := by
  rw [Bl.mixes, show i % 4 = k from by omega, show Bl.pb i = 4 + (k + 1) % 4 from by unfold Bl.pb; omega, show Bl.pc i = 8 + (k + 2) % 4 from by unfold Bl.pc; omega, show Bl.pd i = 12 + (k + 3) % 4 from by unfold Bl.pd; omega]
end Go.Proofs.YtoggibooinhomaaDoor
