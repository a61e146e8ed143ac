/-
  A region that draws its order, within a round of a range over a function: it may be walked as outside of one.
-/
import Derived.Test.YtambgmjiafcokaaDoorProg
import Derived.OrdersHeld
import Derived.Deep.RegionHeld
import Derived.TacticsIn
namespace Go.Proofs.YtambgmjiafcokaaDoor
set_option linter.unusedVariables false
set_option linter.unusedSimpArgs false
namespace Fr
variable {P : Program} {ops : Array Oper} {Q : Exit → Act → World → Prop} {l n : Nat}
/-- no operation puts a call off -/
def noDefer (ops : Array Oper) : Bool := ops.all fun o => match o.op with | .defer _ => false | _ => true
theorem noDefer_spec (h : noDefer ops = true) {i : Nat} {o : Oper} (hi : ops[i]? = some o) : ∀ c, o.op ≠ .defer c := fun c e => by
  unfold noDefer at h
  rw [Array.all_eq_true_iff_forall_mem] at h
  have := h o (Array.mem_of_getElem? hi)
  rw [e] at this
  simp at this
def noDeferL (l : List Oper) : Bool := l.all fun o => match o.op with | .defer _ => false | _ => true
theorem noDeferL_cons {o : Oper} {l : List Oper} (h : noDeferL (o :: l) = true) : (∀ c, o.op ≠ .defer c) ∧ noDeferL l = true := by
  unfold noDeferL at h ⊢
  rw [List.all_cons, Bool.and_eq_true] at h
  refine ⟨fun c e => ?_, h.2⟩
  have := h.1
  rw [e] at this
  simp at this
/-- a fence that is none: outside of a round, or within one -/
def Wd (F : Fence) : Prop := F = Fence.wide ∨ ∃ l, F = Fence.wide.inRound l
variable {F : Fence}
theorem Wd.fn (hF : Wd F) (f : FuncId) : F.fn f := by rcases hF with rfl | ⟨l, rfl⟩ <;> trivial
theorem Wd.depth (hF : Wd F) : F.depth = none := by rcases hF with rfl | ⟨l, rfl⟩ <;> rfl
theorem rows_in (hF : Wd F) {row : String} {args : Array Value} {w : World} {R : Value → World → Prop} (h : Rows P row args w R) : RowsIn F n P row args w R := by
  rcases hF with rfl | ⟨l, rfl⟩
  · exact fun c cs _ => let ⟨v, w', r, s⟩ := h c cs; ⟨v, w', r, stepsIn_wide.2 s⟩
  · exact fun c cs _ => let ⟨v, w', r, s⟩ := h c cs; ⟨v, w', r, by rw [fenced_inRound]; exact stepsIn_wide.2 s⟩
theorem calls_in (hF : Wd F) {f : FuncId} {args : Array Value} {w : World} {R : Ending → World → Prop} (h : Calls P f args w R) : CallsIn F n P f args w R := by
  rcases hF with rfl | ⟨l, rfl⟩
  · exact (callsIn_wide (n := n)).2 h
  · exact (callsIn_wide (n := n)).2 h
theorem upon_in (hF : Wd F) {o : Oper} {a : Act} {K K' : Act → World → Prop} (hK : ∀ a w, K a w → K' a w) {r : Result Next} (h : o.upon P a K Q r) : o.uponIn F n P a K' Q r := by
  cases r with
  | ok x w' =>
    cases x with
    | value v => exact hK _ _ h
    | skip => exact hK _ _ h
    | defer d => exact hK _ _ h
    | enter f args =>
      refine ⟨fun e => (by rw [hF.depth] at e; cases e), calls_in hF (Calls.mono h fun e w'' he => ?_)⟩
      cases e with
      | returned v => exact hK _ _ he
      | panicked c => exact he
      | outgrown => exact he
    | row row args => exact ⟨fun e => (by rw [hF.depth] at e; cases e), rows_in hF (Rows.mono h fun v w'' he => hK _ _ he)⟩
    | _ => exact False.elim h
  | halt x w' =>
    cases x <;> first | exact h | exact False.elim h
theorem ops_in (hF : Wd F) (hd : noDefer ops = true) (hQ : ¬ LetsOut Q) : ∀ (is : List Nat) (a : Act) (w : World), wpOps P ops Q is a w → wpOpsIn F n P ops Q is a w
  | [], a, w, h => h
  | i :: rest, a, w, h => by
    unfold wpOps at h
    unfold wpOpsIn
    cases ho : ops[i]? with
    | none =>
      rw [ho] at h
      exact ops_in hF hd hQ rest a w h
    | some o =>
      rw [ho] at h
      simp only at h ⊢
      by_cases hw : Region.wanted o (yielded ops a.tmps) = true
      · rw [if_pos hw] at h ⊢
        rcases h with h | ⟨_, h⟩
        · refine ⟨fun _ _ => hF.fn _, ?_⟩
          rw [Oper.semAt_eq _ _ _ (noDefer_spec hd ho)]
          exact upon_in hF (fun a' w' h' => ops_in hF hd hQ rest a' w' h') h
        · exact absurd h hQ
      · rw [if_neg hw] at h ⊢
        exact ⟨fun _ _ => hF.fn _, ops_in hF hd hQ rest _ w h⟩
theorem list_in (hF : Wd F) (hQ : ¬ LetsOut Q) : ∀ (rest : List Oper) (a : Act) (w : World), noDeferL rest = true → wpList P ops Q rest a w → wpListIn F n P ops Q rest a w
  | [], a, w, _, h => h
  | o :: rest, a, w, hd, h => by
    unfold wpList at h
    unfold wpListIn
    obtain ⟨h1, h2⟩ := noDeferL_cons hd
    by_cases hw : Region.wanted o (yielded ops a.tmps) = true
    · rw [if_pos hw] at h ⊢
      rcases h with h | ⟨_, h⟩
      · refine ⟨fun _ _ => hF.fn _, ?_⟩
        rw [Oper.semAt_eq _ _ _ h1]
        exact upon_in hF (fun a' w' h' => list_in hF hQ rest a' w' h2 h') h
      · exact absurd h hQ
    · rw [if_neg hw] at h ⊢
      exact ⟨fun _ _ => hF.fn _, list_in hF hQ rest _ w h2 h⟩
/-- how a region may be left: normally -/
def NQ (Q : Exit → Act → World → Prop) : Exit → Act → World → Prop
  | .normal, a, w => Q .normal a w
  | _, _, _ => False
theorem nq {a : Act} {w : World} (h : Q .normal a w) : NQ Q .normal a w := h
theorem nq_out : ¬ LetsOut (NQ Q) := fun hl => by obtain ⟨a, w, h⟩ := hl; exact h
/-- the beginning: the region walked as one outside, with a condition that is held -/
theorem region_held (hF : Wd F) {S : World → Prop} {id : Nat} {a : Act} {w : World} (hm : P.follows .mixedOrders = true) (hd : noDefer ops = true) (hS : S w.drew)
    (h : S w.drew → wpAnyH P .any ops (NQ Q) S ops.size (Array.replicate ops.size false) a w.drew) : (Code.region id ops true).wpIn F n P Q a w := by
  refine Go.wpIn_mono (Q := NQ Q) (wpIn_region_draw fun t => ?_) (fun e a w hq => by cases e <;> first | exact hq | exact False.elim hq)
  refine ops_in hF hd nq_out _ _ _ ?_
  simp only [Region.schedule, hm, Bool.true_or, if_true]
  exact wpAny_sound ops.size t _ a _ (wpAny_of_held _ _ _ _ (h hS))
/-- a region in the text's order, walked as one outside -/
theorem region_lit (hF : Wd F) {id : Nat} {l : List Oper} {a : Act} {w : World} (hd : noDeferL l = true) (h : wpList P l.toArray (NQ Q) l a w) : (Code.region id l.toArray false).wpIn F n P Q a w :=
  Go.wpIn_mono (Q := NQ Q) (wpIn_region_lit (list_in hF nq_out _ _ _ hd h)) (fun e a w hq => by cases e <;> first | exact hq | exact False.elim hq)
/-- one step, as outside -/
theorem step_in (hF : Wd F) {o : Oper} {rest : List Oper} {a : Act} {w : World} (hgd : o.guard = none) (hd : ∀ c, o.op ≠ .defer c) (h : Oper.wp P o a w (wpListIn F n P ops Q rest) Q) : wpListIn F n P ops Q (o :: rest) a w := by
  unfold wpListIn
  have hw : Region.wanted o (yielded ops a.tmps) = true := by simp [Region.wanted, hgd]
  rw [if_pos hw]
  refine ⟨fun _ _ => hF.fn _, ?_⟩
  rw [Oper.semAt_eq _ _ _ hd]
  exact upon_in hF (fun _ _ h => h) h
end Fr
end Go.Proofs.YtambgmjiafcokaaDoor
