/-
  THE WALK of what takes (session.Take).
-/
import Derived.Test.YtaoaebdjinlcnaaDoorVd
import Derived.Test.YtaoaebdjinlcnaaDoorProg
import Derived.OrdersHeld
import Derived.Deep.RegionHeld
import Derived.TacticsIn
import Derived.Test.YtaoaebdjinlcnaaDoorAr
import Derived.RangeFuncNested
import Derived.RangeFuncLeaves
import Derived.RangeFuncCalls
import Derived.RangeFuncBound
import Derived.LoopIn
namespace Go.Proofs.YtaoaebdjinlcnaaDoor
set_option linter.unusedVariables false
set_option linter.unusedSimpArgs false
set_option maxRecDepth 100000
open Go.RowKit
theorem reply_any (K : List Nat) (n : Nat) (d : ByteArray) (w : World) (hK : Bl.By K) (lK : K.length = 32) (hn : n < 18446744073709551616) (hT : Tab w) (hd : d.size ≤ 1000) :
    Calls Tryd.prog 16 #[.agg (vs .u8 K), .int .u64 (n : Int), .string d] w fun e w' => e = .returned (.string (replyD K n d)) ∧ Below w.heap.size w w' := by
  have oK := Own.new w 24 (vs .u8 K)
  have b0 := grow w (Obj.cells (vs .u8 K) 24)
  have z8 := num8_size n
  have hkey := fun wr (o : Below w.heap.size w wr) => reply_key K wr hK lK (hT.below o)
  
  have hnon := fun wr => nonce8_any n wr hn
  have hnum := fun wr => number_any n wr hn
  have hseal := fun wr (o : Below w.heap.size w wr) => seal_any (Bl.keyed K wR) (nonD (num8 n)) (num8 n) d wr (keyed_by _ _) (nonD8_by _) (keyed_len _ _) (nonD8_len _) (hT.below o) (by omega) (by omega)
  have HB := Lib.hid (show boxD (Bl.keyed K wR) (nonD (num8 n)) (num8 n) d = replyD K n d from rfl)
  go_enter Tryd.func16, Tryd.ntmps16
  go_wp2_with (refine ld t28 rfl rfl rfl oK lK ?_)
  refine (hkey _ b0).mono ?_
  rintro e w1 ⟨rfl, hx⟩
  replace b0 := b0.trans (hx.mono b0.size)
  clear hx oK
  go_wp2_with fail
  refine (hnon _).mono ?_
  rintro e w2 ⟨rfl, hx⟩
  replace b0 := b0.trans (hx.mono b0.size)
  clear hx
  go_wp2_with fail
  refine (hnum _).mono ?_
  rintro e w3 ⟨rfl, hx⟩
  replace b0 := b0.trans (hx.mono b0.size)
  clear hx
  go_wp2_with fail
  refine (hseal _ b0).mono ?_
  rintro e w4 ⟨rfl, hx⟩
  replace b0 := b0.trans (hx.mono b0.size)
  clear hx
  rw [HB.out]
  go_wp2_with fail
  go_ret
  exact ⟨rfl, b0⟩
theorem rreply_any (K : List Nat) (n : Nat) (d : ByteArray) (w : World) (hK : Bl.By K) (lK : K.length = 32) (hn : n < 18446744073709551616) (hd : d.size ≤ 1000) :
    Calls Tryd.prog 17 #[.agg (vs .u8 K), .int .u64 (n : Int), .string d] w fun e w' => e = .returned (.string (replyD K n d)) ∧ Below w.heap.size w w' := by
  have oK := Own.new w 24 (vs .u8 K)
  have b0 := grow w (Obj.cells (vs .u8 K) 24)
  have z8 := num8_size n
  have hkey := fun wr (o : Below w.heap.size w wr) => of43_any K ⟨#[114, 101, 112, 108, 121]⟩ wr hK lK (by decide)
  rw [tn_reply] at hkey
  have hnon := fun wr => rnonce8_any n wr hn
  have hnum := fun wr => rnum_any n wr hn
  have hseal := fun wr (o : Below w.heap.size w wr) => rseal_any (Bl.keyed K wR) (nonD (num8 n)) (num8 n) d wr (keyed_by _ _) (nonD8_by _) (keyed_len _ _) (nonD8_len _) (by omega) (by omega)
  have HB := Lib.hid (show boxD (Bl.keyed K wR) (nonD (num8 n)) (num8 n) d = replyD K n d from rfl)
  go_enter Tryd.func17, Tryd.ntmps17
  go_wp2_with (refine ld t28 rfl rfl rfl oK lK ?_)
  refine (hkey _ b0).mono ?_
  rintro e w1 ⟨rfl, hx⟩
  replace b0 := b0.trans (hx.mono b0.size)
  clear hx oK
  go_wp2_with fail
  refine (hnon _).mono ?_
  rintro e w2 ⟨rfl, hx⟩
  replace b0 := b0.trans (hx.mono b0.size)
  clear hx
  go_wp2_with fail
  refine (hnum _).mono ?_
  rintro e w3 ⟨rfl, hx⟩
  replace b0 := b0.trans (hx.mono b0.size)
  clear hx
  go_wp2_with fail
  refine (hseal _ b0).mono ?_
  rintro e w4 ⟨rfl, hx⟩
  replace b0 := b0.trans (hx.mono b0.size)
  clear hx
  rw [HB.out]
  go_wp2_with fail
  go_ret
  exact ⟨rfl, b0⟩
theorem answer_any (K : List Nat) (n : Nat) (f : ByteArray) (w : World) (hK : Bl.By K) (lK : K.length = 32) (hn : n < 18446744073709551616) (hT : Tab w) (hd : f.size ≤ 10000) :
    Calls Tryd.prog 20 #[.agg (vs .u8 K), .int .u64 (n : Int), .string f] w fun e w' => e = .returned (.tuple #[.string (ansD K n f).1, .int .i64 ((ansD K n f).2 : Nat)]) ∧ Below w.heap.size w w' := by
  have oK := Own.new w 24 (vs .u8 K)
  have b0 := grow w (Obj.cells (vs .u8 K) 24)
  have z8 := num8_size n
  have hkey := fun wr (o : Below w.heap.size w wr) => reply_key K wr hK lK (hT.below o)
  
  have hnum := fun wr => number_any n wr hn
  have hop : ∀ wr, Below w.heap.size w wr → Calls Tryd.prog 41 #[.agg (vs .u8 (Bl.keyed K wR)), .string (num8 n), .string f] wr fun e w' => e = .returned (.tuple #[.string (ansD K n f).1, .int .i64 ((ansD K n f).2 : Nat)]) ∧ Below wr.heap.size wr w' := fun wr (o : Below w.heap.size w wr) => open_any (Bl.keyed K wR) (num8 n) f wr (keyed_by _ _) (keyed_len _ _) (hT.below o) (by omega) (by omega)
  generalize ansD K n f = r at *
  obtain ⟨r1, r2⟩ := r
  go_enter Tryd.func20, Tryd.ntmps20
  go_wp2_with (refine ld t28 rfl rfl rfl oK lK ?_)
  refine (hkey _ b0).mono ?_
  rintro e w1 ⟨rfl, hx⟩
  replace b0 := b0.trans (hx.mono b0.size)
  clear hx oK
  go_wp2_with fail
  refine (hnum _).mono ?_
  rintro e w3 ⟨rfl, hx⟩
  replace b0 := b0.trans (hx.mono b0.size)
  clear hx
  go_wp2_with fail
  refine (hop _ b0).mono ?_
  rintro e w4 ⟨rfl, hx⟩
  replace b0 := b0.trans (hx.mono b0.size)
  clear hx
  go_wp2_with fail
  go_ret2
  exact ⟨rfl, b0⟩
theorem ranswer_any (K : List Nat) (n : Nat) (f : ByteArray) (w : World) (hK : Bl.By K) (lK : K.length = 32) (hn : n < 18446744073709551616) (hd : f.size ≤ 10000) :
    Calls Tryd.prog 21 #[.agg (vs .u8 K), .int .u64 (n : Int), .string f] w fun e w' => e = .returned (.tuple #[.string (ansD K n f).1, .int .i64 ((ansD K n f).2 : Nat)]) ∧ Below w.heap.size w w' := by
  have oK := Own.new w 24 (vs .u8 K)
  have b0 := grow w (Obj.cells (vs .u8 K) 24)
  have z8 := num8_size n
  have hkey := fun wr (o : Below w.heap.size w wr) => of43_any K ⟨#[114, 101, 112, 108, 121]⟩ wr hK lK (by decide)
  rw [tn_reply] at hkey
  have hnum := fun wr => rnum_any n wr hn
  have hop : ∀ wr, Below w.heap.size w wr → Calls Tryd.prog 43 #[.agg (vs .u8 (Bl.keyed K wR)), .string (num8 n), .string f] wr fun e w' => e = .returned (.tuple #[.string (ansD K n f).1, .int .i64 ((ansD K n f).2 : Nat)]) ∧ Below wr.heap.size wr w' := fun wr (o : Below w.heap.size w wr) => ropen_any (Bl.keyed K wR) (num8 n) f wr (keyed_by _ _) (keyed_len _ _) (by omega) (by omega)
  generalize ansD K n f = r at *
  obtain ⟨r1, r2⟩ := r
  go_enter Tryd.func21, Tryd.ntmps21
  go_wp2_with (refine ld t28 rfl rfl rfl oK lK ?_)
  refine (hkey _ b0).mono ?_
  rintro e w1 ⟨rfl, hx⟩
  replace b0 := b0.trans (hx.mono b0.size)
  clear hx oK
  go_wp2_with fail
  refine (hnum _).mono ?_
  rintro e w3 ⟨rfl, hx⟩
  replace b0 := b0.trans (hx.mono b0.size)
  clear hx
  go_wp2_with fail
  refine (hop _ b0).mono ?_
  rintro e w4 ⟨rfl, hx⟩
  replace b0 := b0.trans (hx.mono b0.size)
  clear hx
  go_wp2_with fail
  go_ret2
  exact ⟨rfl, b0⟩
end Go.Proofs.YtaoaebdjinlcnaaDoor
namespace Go.Proofs.YtaoaebdjinlcnaaDoor
set_option linter.unusedVariables false
set_option linter.unusedSimpArgs false
namespace Fr
variable {P : Program} {ops : Array Oper} {Q : Exit → Act → World → Prop} {l n : Nat}
/-- no operation puts a call off -/
def noDefer (ops : Array Oper) : Bool := ops.all fun o => match o.op with | .defer _ => false | _ => true
theorem noDefer_spec (h : noDefer ops = true) {i : Nat} {o : Oper} (hi : ops[i]? = some o) : ∀ c, o.op ≠ .defer c := fun c e => by
  unfold noDefer at h
  rw [Array.all_eq_true_iff_forall_mem] at h
  have := h o (Array.mem_of_getElem? hi)
  rw [e] at this
  simp at this
def noDeferL (l : List Oper) : Bool := l.all fun o => match o.op with | .defer _ => false | _ => true
theorem noDeferL_cons {o : Oper} {l : List Oper} (h : noDeferL (o :: l) = true) : (∀ c, o.op ≠ .defer c) ∧ noDeferL l = true := by
  unfold noDeferL at h ⊢
  rw [List.all_cons, Bool.and_eq_true] at h
  refine ⟨fun c e => ?_, h.2⟩
  have := h.1
  rw [e] at this
  simp at this
/-- a fence that is none: outside of a round, or within one -/
def Wd (F : Fence) : Prop := F = Fence.wide ∨ ∃ l, F = Fence.wide.inRound l
variable {F : Fence}
theorem Wd.fn (hF : Wd F) (f : FuncId) : F.fn f := by rcases hF with rfl | ⟨l, rfl⟩ <;> trivial
theorem Wd.depth (hF : Wd F) : F.depth = none := by rcases hF with rfl | ⟨l, rfl⟩ <;> rfl
theorem rows_in (hF : Wd F) {row : String} {args : Array Value} {w : World} {R : Value → World → Prop} (h : Rows P row args w R) : RowsIn F n P row args w R := by
  rcases hF with rfl | ⟨l, rfl⟩
  · exact fun c cs _ => let ⟨v, w', r, s⟩ := h c cs; ⟨v, w', r, stepsIn_wide.2 s⟩
  · exact fun c cs _ => let ⟨v, w', r, s⟩ := h c cs; ⟨v, w', r, by rw [fenced_inRound]; exact stepsIn_wide.2 s⟩
theorem calls_in (hF : Wd F) {f : FuncId} {args : Array Value} {w : World} {R : Ending → World → Prop} (h : Calls P f args w R) : CallsIn F n P f args w R := by
  rcases hF with rfl | ⟨l, rfl⟩
  · exact (callsIn_wide (n := n)).2 h
  · exact (callsIn_wide (n := n)).2 h
theorem upon_in (hF : Wd F) {o : Oper} {a : Act} {K K' : Act → World → Prop} (hK : ∀ a w, K a w → K' a w) {r : Result Next} (h : o.upon P a K Q r) : o.uponIn F n P a K' Q r := by
  cases r with
  | ok x w' =>
    cases x with
    | value v => exact hK _ _ h
    | skip => exact hK _ _ h
    | defer d => exact hK _ _ h
    | enter f args =>
      refine ⟨fun e => (by rw [hF.depth] at e; cases e), calls_in hF (Calls.mono h fun e w'' he => ?_)⟩
      cases e with
      | returned v => exact hK _ _ he
      | panicked c => exact he
      | outgrown => exact he
    | row row args => exact ⟨fun e => (by rw [hF.depth] at e; cases e), rows_in hF (Rows.mono h fun v w'' he => hK _ _ he)⟩
    | _ => exact False.elim h
  | halt x w' =>
    cases x <;> first | exact h | exact False.elim h
theorem ops_in (hF : Wd F) (hd : noDefer ops = true) (hQ : ¬ LetsOut Q) : ∀ (is : List Nat) (a : Act) (w : World), wpOps P ops Q is a w → wpOpsIn F n P ops Q is a w
  | [], a, w, h => h
  | i :: rest, a, w, h => by
    unfold wpOps at h
    unfold wpOpsIn
    cases ho : ops[i]? with
    | none =>
      rw [ho] at h
      exact ops_in hF hd hQ rest a w h
    | some o =>
      rw [ho] at h
      simp only at h ⊢
      by_cases hw : Region.wanted o (yielded ops a.tmps) = true
      · rw [if_pos hw] at h ⊢
        rcases h with h | ⟨_, h⟩
        · refine ⟨fun _ _ => hF.fn _, ?_⟩
          rw [Oper.semAt_eq _ _ _ (noDefer_spec hd ho)]
          exact upon_in hF (fun a' w' h' => ops_in hF hd hQ rest a' w' h') h
        · exact absurd h hQ
      · rw [if_neg hw] at h ⊢
        exact ⟨fun _ _ => hF.fn _, ops_in hF hd hQ rest _ w h⟩
theorem list_in (hF : Wd F) (hQ : ¬ LetsOut Q) : ∀ (rest : List Oper) (a : Act) (w : World), noDeferL rest = true → wpList P ops Q rest a w → wpListIn F n P ops Q rest a w
  | [], a, w, _, h => h
  | o :: rest, a, w, hd, h => by
    unfold wpList at h
    unfold wpListIn
    obtain ⟨h1, h2⟩ := noDeferL_cons hd
    by_cases hw : Region.wanted o (yielded ops a.tmps) = true
    · rw [if_pos hw] at h ⊢
      rcases h with h | ⟨_, h⟩
      · refine ⟨fun _ _ => hF.fn _, ?_⟩
        rw [Oper.semAt_eq _ _ _ h1]
        exact upon_in hF (fun a' w' h' => list_in hF hQ rest a' w' h2 h') h
      · exact absurd h hQ
    · rw [if_neg hw] at h ⊢
      exact ⟨fun _ _ => hF.fn _, list_in hF hQ rest _ w h2 h⟩
/-- how a region may be left: normally -/
def NQ (Q : Exit → Act → World → Prop) : Exit → Act → World → Prop
  | .normal, a, w => Q .normal a w
  | _, _, _ => False
theorem nq {a : Act} {w : World} (h : Q .normal a w) : NQ Q .normal a w := h
theorem nq_out : ¬ LetsOut (NQ Q) := fun hl => by obtain ⟨a, w, h⟩ := hl; exact h
/-- the beginning: the region walked as one outside, with a condition that is held -/
theorem region_held (hF : Wd F) {S : World → Prop} {id : Nat} {a : Act} {w : World} (hm : P.follows .mixedOrders = true) (hd : noDefer ops = true) (hS : S w.drew)
    (h : S w.drew → wpAnyH P .any ops (NQ Q) S ops.size (Array.replicate ops.size false) a w.drew) : (Code.region id ops true).wpIn F n P Q a w := by
  refine Go.wpIn_mono (Q := NQ Q) (wpIn_region_draw fun t => ?_) (fun e a w hq => by cases e <;> first | exact hq | exact False.elim hq)
  refine ops_in hF hd nq_out _ _ _ ?_
  simp only [Region.schedule, hm, Bool.true_or, if_true]
  exact wpAny_sound ops.size t _ a _ (wpAny_of_held _ _ _ _ (h hS))
/-- a region in the text's order, walked as one outside -/
theorem region_lit (hF : Wd F) {id : Nat} {l : List Oper} {a : Act} {w : World} (hd : noDeferL l = true) (h : wpList P l.toArray (NQ Q) l a w) : (Code.region id l.toArray false).wpIn F n P Q a w :=
  Go.wpIn_mono (Q := NQ Q) (wpIn_region_lit (list_in hF nq_out _ _ _ hd h)) (fun e a w hq => by cases e <;> first | exact hq | exact False.elim hq)
/-- one step, as outside -/
theorem step_in (hF : Wd F) {o : Oper} {rest : List Oper} {a : Act} {w : World} (hgd : o.guard = none) (hd : ∀ c, o.op ≠ .defer c) (h : Oper.wp P o a w (wpListIn F n P ops Q rest) Q) : wpListIn F n P ops Q (o :: rest) a w := by
  unfold wpListIn
  have hw : Region.wanted o (yielded ops a.tmps) = true := by simp [Region.wanted, hgd]
  rw [if_pos hw]
  refine ⟨fun _ _ => hF.fn _, ?_⟩
  rw [Oper.semAt_eq _ _ _ hd]
  exact upon_in hF (fun _ _ h => h) h
end Fr
end Go.Proofs.YtaoaebdjinlcnaaDoor
namespace Go.Proofs.YtaoaebdjinlcnaaDoor
open Go.RowKit
namespace Rg
variable {α : Type} {P : Program}
/-- what hands on until it is stopped, and writes a block gk of its own meanwhile: wherever the caller goes on, G holds of all that was handed on -/
def Hands (n : Nat) (P : Program) (gk : Nat) (gf : Nat) (lb : Array Value) (encs : α → Array Value) (Kp : World → World → Prop) (G Sp : List α → Prop) (w : World) : Prop :=
  ∀ (l : Nat) (J Jx : List α → World → Prop) (W : World), Below w.heap.size w W → AbidesFrom W.heap.size J → AbidesFrom W.heap.size Jx → (∀ pre V V', J pre V → V.grownBy V' (some gk) → J pre V') → (∀ pre V, J pre V → G pre) →
    (∀ pre x V, J pre V → YieldAt Fence.wide (n - 1) P l (encs x) V fun e V' => (e = .returned (.bool true) ∧ J (pre ++ [x]) V' ∧ Kp V V') ∨ (e = .returned (.bool false) ∧ Jx (pre ++ [x]) V')) →
    J [] W → CallsIn Fence.wide n P gf (#[.func (.yield l) #[] #[]] ++ lb) W fun e V => (∃ v, e = .returned v) ∧ ∃ pre, Sp pre ∧ Jx pre V
/-- the loop's record -/
def rec' (fn : FuncId) (a : Act) (ps : Array Tmp) (assign body : Code) (D : Nat) (st : LoopState) (pe : Option Code) : Loop :=
  { state := st, pending := pe, fn := fn, tmps := a.tmps, params := ps, assign := assign, body := body, defers := D }
/-- the two blocks of the loop's book-keeping -/
structure Bk (D : Nat) (r : Loop) (W : World) : Prop where
  l : W.heap[D + 1]? = some (.loop r)
  d : W.heap[D]? = some (.deferred (some []))
theorem Bk.lt {D : Nat} {r : Loop} {W : World} (h : Bk D r W) : D + 1 < W.heap.size := (Array.getElem?_eq_some_iff.1 h.l).1
theorem Bk.put {D : Nat} {r : Loop} {W : World} (h : Bk D r W) (r' : Loop) : Bk D r' (W.putObj (D + 1) (.loop r')) :=
  ⟨World.putObj_heap_same h.lt, (World.putObj_heap_other (by omega)).trans h.d⟩
theorem Bk.from {D : Nat} {r : Loop} {V W : World} (h : Bk D r V) (k : KeepsFrom D V W) : Bk D r W := ⟨k.same _ _ (by omega) h.l rfl, k.same _ _ (Nat.le_refl _) h.d rfl⟩
theorem Bk.walk {D B : Nat} {r : Loop} {V W : World} {row : Option Nat} (h : Bk D r V) (hg : V.grownBy W row) (hr : ∀ k, row = some k → B ≤ k ∧ ∃ o : Obj, V.heap[k]? = some o ∧ o.isWalk = true) : Bk D r W := by
  have c : ∀ k, row = some k → ∃ o : Obj, V.heap[k]? = some o ∧ o.isCells = false := fun k e => by obtain ⟨_, o, ho, hw⟩ := hr k e; exact ⟨o, ho, Obj.not_cells_of_walk hw⟩
  refine ⟨(hg.block _ h.lt fun e => ?_).trans h.l, (hg.block _ (by have := h.lt; omega) fun e => ?_).trans h.d⟩
  · obtain ⟨_, o, ho, hw⟩ := hr _ e.symm
    rw [h.l] at ho; cases ho; cases hw
  · obtain ⟨_, o, ho, hw⟩ := hr _ e.symm
    rw [h.d] at ho; cases ho; cases hw
theorem Bk.row {D gk : Nat} {r : Loop} {V W : World} (h : Bk D r V) (hg : V.grownBy W (some gk)) (hk : gk < D) : Bk D r W :=
  ⟨(hg.block _ h.lt fun e => by cases e; omega).trans h.l, (hg.block _ (by have := h.lt; omega) fun e => by cases e; omega).trans h.d⟩
theorem grownBy_setRow (W : World) (g : Nat) (cs : Array Value) : W.grownBy (W.setRow g cs) (some g) :=
  ⟨rfl, rfl, rfl, by simp, fun k hk hn => heap_setRow W g cs k fun e => hn (by rw [e])⟩
theorem Bk.own {D : Nat} {r : Loop} {W : World} (h : Bk D r W) {β : Type} {I : β → World → Prop} (hI : OwnFrom D I) {s : β} (hs : I s W) (r' : Loop) : I s (W.putObj (D + 1) (.loop r')) := hI.putObj _ hs (by omega) h.l rfl
theorem range_hands {n : Nat} {g : Operand} {ps : Array Tmp} {assign body : Code} {Q : Exit → Act → World → Prop} {a : Act} {w : World} (h1 : 1 ≤ n) {gf : Nat} {lb : Array Value}
    (hg : a.eval g = .func (.func gf) #[] lb) (eg : ∀ args w, (callFunc gf args).run P w = .ok (.enter gf args) w) {encs : α → Array Value} {Kp : World → World → Prop} {G Sp : List α → Prop} {w0 : World}
    {gk : Nat} (hs : Hands (n - 1) P gk gf lb encs Kp G Sp w0) (hgk : gk < w.heap.size) (hb0 : Below w0.heap.size w0 w) (hps : ∀ x, (encs x).size = ps.size)
    (hKt : ∀ {A B C : World}, Kp A B → Kp B C → Kp A C) (hKb : ∀ (W : World) (l : Nat) (o o' : Obj), w.heap.size ≤ l → W.heap[l]? = some o → o.isCells = false → Kp W (W.putObj l o'))
    (I : List α → World → Prop) (Ix : Code → List α → World → Prop) (hI : OwnFrom w.heap.size I) (hIx : ∀ c, OwnFrom w.heap.size (Ix c)) (hIk : ∀ pre V V', I pre V → V.grownBy V' (some gk) → I pre V') (h0 : I [] w) (hG : ∀ pre V, I pre V → G pre)
    (Ax : α → Act → World → Prop) (hAx : ∀ x a', OwnFrom w.heap.size (fun (_ : Unit) W => Ax x a' W))
    (hassign : ∀ (l : Nat) (pre : List α) (x : α) (W : World) (K : Act → World → Prop), I pre W → (∀ a' W', KeepsFrom w.heap.size W W' → Kp W W' → I pre W' → Ax x a' W' → K a' W') →
      assign.wpIn (Fence.wide.inRound l) (n - 1 - 1) P (Exit.then K (fun _ _ _ => False)) { tmps := (ps.zip (encs x)).foldl (fun t (p, v) => t.setIfInBounds p v) a.tmps, defers := [] } W)
    (hbody : ∀ (l : Nat) (pre : List α) (x : α) (a' : Act) (W : World), w.heap.size ≤ l → I pre W → Ax x a' W → body.wpIn (Fence.wide.inRound l) (n - 1 - 1) P (ownPostG w.heap.size Kp I Ix (pre ++ [x]) W) a' W)
    (hstop : ∀ (D : Nat) (c : Code) (pre : List α) (W : World), w.heap.size ≤ D → Sp pre → Ix c pre W → W.heap[D]? = some (.deferred (some [])) → c.wpIn Fence.wide n P Q { a with defers := { target := .collected D, args := #[] } :: a.defers } W) :
    (Code.rangeFunc g ps assign body).wpIn Fence.wide n P Q a w := by
  refine wpIn_rangeFunc fun fn hfn => ?_
  have bk0 : Bk w.heap.size (rec' fn a ps assign body w.heap.size .ready none) ((w.alloc (.deferred (some []))).alloc (.loop (rec' fn a ps assign body w.heap.size .ready none))) := by
    refine ⟨?_, (Below.heap_alloc _ _ _ (by simp)).trans (World.alloc_heap_new w _)⟩
    have := World.alloc_heap_new (w.alloc (.deferred (some []))) (.loop (rec' fn a ps assign body w.heap.size .ready none))
    rwa [World.size_alloc] at this
  have i0 : I [] ((w.alloc (.deferred (some []))).alloc (.loop (rec' fn a ps assign body w.heap.size .ready none))) := hI.alloc _ (hI.alloc _ h0)
  have b0 : Below w0.heap.size w0 ((w.alloc (.deferred (some []))).alloc (.loop (rec' fn a ps assign body w.heap.size .ready none))) := (hb0.alloc hb0.size _).alloc (by have := hb0.size; simp; omega) _
  have hent : (Instr.enterLoop fn a.tmps ps assign body Fence.wide.round).run P w = .ok (w.heap.size + 1, [{ target := .collected w.heap.size, args := #[] }]) ((w.alloc (.deferred (some []))).alloc (.loop (rec' fn a ps assign body w.heap.size .ready none))) :=
    run_enterLoop_outer _ _ _ _ _
  generalize ((w.alloc (.deferred (some []))).alloc (.loop (rec' fn a ps assign body w.heap.size .ready none))) = W1 at *
  refine ⟨_, _, W1, { target := .fn (.func gf) lb, args := #[.func (.yield (w.heap.size + 1)) #[] #[]] }, W1, gf, #[.func (.yield (w.heap.size + 1)) #[] #[]] ++ lb, W1, hent, ?_, fun _ _ => trivial, ?_, fun _ => h1, ?_⟩
  · simp only [resolve, hg]
    simp [go_sem]
  · simp [invoke, go_sem, eg]
  have hwalk : ∀ {V W : World} {row : Option Nat}, (∀ k, row = some k → W1.heap.size ≤ k ∧ ∃ o : Obj, V.heap[k]? = some o ∧ o.isWalk = true) → ∀ k, row = some k → w.heap.size ≤ k ∧ ∃ o : Obj, V.heap[k]? = some o ∧ o.isCells = false := fun hr k e => by
    obtain ⟨hB, o, ho, hw⟩ := hr k e
    have := bk0.lt
    exact ⟨by omega, o, ho, Obj.not_cells_of_walk hw⟩
  refine (hs (w.heap.size + 1) (fun pre W => I pre W ∧ Bk w.heap.size (rec' fn a ps assign body w.heap.size .ready none) W)
    (fun pre W => ∃ c, Ix c pre W ∧ Bk w.heap.size (rec' fn a ps assign body w.heap.size .done (some c)) W) W1 b0
    (fun s V W row h hgr hr => ⟨hI s V W row h.1 hgr (hwalk (W := W) hr), h.2.walk hgr hr⟩)
    (fun s V W row h hgr hr => by obtain ⟨c, hc, hb⟩ := h; exact ⟨c, hIx c s V W row hc hgr (hwalk (W := W) hr), hb.walk hgr hr⟩)
    (fun pre V V' h hg => ⟨hIk pre V V' h.1 hg, h.2.row hg hgk⟩) (fun pre V h => hG pre V h.1) ?_ ⟨i0, bk0⟩).mono ?_
  · rintro pre x V ⟨hi, hb⟩
    refine ⟨fn, _, assign, body, run_yield hb.l (hps x), roundIn_of_wpIn hfn (hassign _ pre x V _ hi fun a' V1 hk hp hi1 hx => ?_)⟩
    have hb1 := hb.from hk
    refine ⟨_, run_beginRound hb1.l rfl, ?_⟩
    have hb2 := hb1.put (rec' fn a ps assign body w.heap.size .busy none)
    have hi2 := hb1.own hI hi1 (rec' fn a ps assign body w.heap.size .busy none)
    have hx2 := hb1.own (hAx x a') (s := ()) hx (rec' fn a ps assign body w.heap.size .busy none)
    have hp2 : Kp V (V1.putObj (w.heap.size + 1) (.loop (rec' fn a ps assign body w.heap.size .busy none))) := hKt hp (hKb _ _ _ _ (by omega) hb1.l rfl)
    refine wpIn_mono (hbody (w.heap.size + 1) pre x a' _ (by omega) hi2 hx2) fun e a3 V3 hq => ?_
    have left : ∀ c : Code, KeepsFrom w.heap.size (V1.putObj (w.heap.size + 1) (.loop (rec' fn a ps assign body w.heap.size .busy none))) V3 → Ix c (pre ++ [x]) V3 →
        ∃ v V', (Instr.endRound (w.heap.size + 1) (some c)).run P V3 = .ok v V' ∧ ((Ending.returned v = .returned (.bool true) ∧ (I (pre ++ [x]) V' ∧ Bk w.heap.size (rec' fn a ps assign body w.heap.size .ready none) V') ∧ Kp V V') ∨
          (Ending.returned v = .returned (.bool false) ∧ ∃ c, Ix c (pre ++ [x]) V' ∧ Bk w.heap.size (rec' fn a ps assign body w.heap.size .done (some c)) V')) := fun c k3 h3 => by
      have hb3 := hb2.from k3
      exact ⟨_, _, run_endRound (some c) hb3.l, .inr ⟨rfl, c, hb3.own (hIx c) h3 _, hb3.put _⟩⟩
    cases e with
    | normal =>
      obtain ⟨k3, p3, i3⟩ := hq
      have hb3 := hb2.from k3
      exact ⟨_, _, run_endRound none hb3.l, .inl ⟨rfl, ⟨hb3.own hI i3 _, hb3.put _⟩, hKt hp2 (hKt p3 (hKb _ _ _ _ (by omega) hb3.l rfl))⟩⟩
    | ret => exact left _ hq.1 hq.2
    | exit id => exact left _ hq.1 hq.2
    | goto t => exact left _ hq.1 hq.2
    | panic ch => exact hq.elim
    | outgrown => exact hq.elim
  · rintro e V ⟨⟨v, rfl⟩, pre, hp, c, hc, hb⟩
    exact ⟨some c, _, run_endLoop hb.l (by simp [rec']), hstop _ c pre _ (Nat.le_refl _) hp (hb.own (hIx c) hc _) (hb.put _).d⟩
end Rg
end Go.Proofs.YtaoaebdjinlcnaaDoor
namespace Go.Proofs.YtaoaebdjinlcnaaDoor
set_option linter.unusedVariables false
set_option linter.unusedSimpArgs false
set_option maxRecDepth 100000
open Go.RowKit
attribute [local go_sem] Oper.semAt_some
theorem behind_any (K : List Nat) (w : World) : Calls Tryd.prog 40 #[.agg (vs .u8 K)] w fun e w' =>
    (e = .returned (.func (.func 61) #[] #[.pointer (some ⟨w.heap.size, 0, none⟩)]) ∧ Own w' w.heap.size 24 (vs .u8 K)) ∧ Below w.heap.size w w' := by
  have o := Own.new w 24 (vs .u8 K)
  have b := grow w (Obj.cells (vs .u8 K) 24)
  go_enter Tryd.func40, Tryd.ntmps40
  go_wp2_with fail
  go_ret
  exact ⟨⟨rfl, o⟩, b⟩
theorem abides_below {β : Type} {B : Nat} {J : β → World → Prop} (h : AbidesFrom B J) {s : β} {W W' : World} (hs : J s W) (hb : Below W.heap.size W W') : J s W' :=
  h s W W' none hs ⟨hb.os, hb.tape, hb.output, hb.size, fun k hk _ => hb.block k hk⟩ (fun r e => by cases e)
/-- the captured block, and the tables, are as they were -/
def Kk3 (gk : Nat) (W W' : World) : Prop := W.heap.size ≤ W'.heap.size ∧ W'.heap[gk]? = W.heap[gk]? ∧ ∀ k, k < 3 → W'.heap[k]? = W.heap[k]?
theorem Kk3.trans {gk : Nat} {A B C : World} (h : Kk3 gk A B) (k : Kk3 gk B C) : Kk3 gk A C := ⟨Nat.le_trans h.1 k.1, k.2.1.trans h.2.1, fun i hi => (k.2.2 i hi).trans (h.2.2 i hi)⟩
theorem Kk3.below {gk B : Nat} {W W' : World} (h : Below B W W') (hg : gk < B) (h3 : 3 ≤ B) (hs : W.heap.size ≤ W'.heap.size) : Kk3 gk W W' := ⟨hs, h.block _ hg, fun k hk => h.block k (by omega)⟩
theorem Kk3.putObj {gk l : Nat} (W : World) (o' : Obj) (h1 : gk < l) (h3 : 3 ≤ l) : Kk3 gk W (W.putObj l o') := ⟨by simp [World.putObj], World.putObj_heap_other (by omega), fun k hk => World.putObj_heap_other (by omega)⟩
theorem Tab.of3 {W W' : World} (h : Tab W) (k : ∀ i, i < 3 → W'.heap[i]? = W.heap[i]?) : Tab W' :=
  ⟨fun i hi => (World.cell?_of_block (k 0 (by omega))).trans (h.1 i hi), fun r i hr hi => (World.cell?_of_block (k 2 (by omega))).trans (h.2 r i hr hi)⟩
def encK (K : List Nat) (j : Nat) : Array Value := #[.int .u64 (j : Int), .agg (vs .u8 (it K j))]
theorem ldi {ty : TypeId} {m : Nat} (T : ArrT ty m) {F : Fence} (hF : Fr.Wd F) {n : Nat} {ops : Array Oper} {rest : List Oper} {o : Oper} {a : Act} {w : World} {Q : Exit → Act → World → Prop} {x : Operand} {g : Nat} {t : TypeId} {l : List Nat}
    (hgd : o.guard = none) (ho : o.op = .load ty x) (hx : a.eval x = .pointer (some ⟨g, 0, none⟩)) (hg : Own w g t (vs .u8 l)) (hl : l.length = m)
    (h : wpListIn F n Tryd.prog ops Q rest (a.put o.dst (.agg (vs .u8 l))) w) : wpListIn F n Tryd.prog ops Q (o :: rest) a w := by
  obtain ⟨e, hu⟩ := T.und
  exact Fr.step_in hF hgd (fun c e => by rw [ho] at e; cases e) (wp_load_row ty x ho g hx t (vs .u8 l) (0, 0) _ hg hu rfl (by rw [T.siz, vs_size, hl]) h)
theorem stoi {ty : TypeId} {m : Nat} (T : ArrT ty m) {F : Fence} (hF : Fr.Wd F) {n : Nat} {ops : Array Oper} {rest : List Oper} {o : Oper} {a : Act} {w : World} {Q : Exit → Act → World → Prop} {x y : Operand} {g : Nat} {t : TypeId} {l l' : List Nat}
    (hgd : o.guard = none) (ho : o.op = .store ty x y) (hx : a.eval x = .pointer (some ⟨g, 0, none⟩)) (hy : a.eval y = .agg (vs .u8 l)) (hg : Own w g t (vs .u8 l')) (hl' : l'.length = m) (hl : l.length = m)
    (h : wpListIn F n Tryd.prog ops Q rest (a.put o.dst undef) (w.setRow g (vs .u8 l))) : wpListIn F n Tryd.prog ops Q (o :: rest) a w :=
  Fr.step_in hF hgd (fun c e => by rw [ho] at e; cases e) (wp_store_row ty x y ho g (vs .u8 l) hx hy t (vs .u8 l') hg (by rw [T.siz, vs_size, hl]) (by rw [vs_size, vs_size, hl, hl']) (vs_one _ l) h)
set_option maxHeartbeats 1000000 in
theorem bh_in (nf : Nat) (hn : 1 ≤ nf) (lp gk d : Nat) (K : List Nat) (hK : Bl.By K) (lK : K.length = 32) (hd : d < 18446744073709551616) (J Jx : List Nat → World → Prop) (W : World) (hJ : AbidesFrom W.heap.size J)
    (hJk : ∀ pre V V', J pre V → V.grownBy V' (some gk) → J pre V') (hG : ∀ pre V, J pre V → ∀ x ∈ pre, x ≠ d) (h3 : 3 ≤ W.heap.size) (hg3 : 3 ≤ gk)
    (hY : ∀ pre x V, J pre V → YieldAt Fence.wide (nf - 1) Tryd.prog lp (encK K x) V fun e V' => (e = .returned (.bool true) ∧ J (pre ++ [x]) V' ∧ Kk3 gk V V') ∨ (e = .returned (.bool false) ∧ Jx (pre ++ [x]) V'))
    (o : Own W gk 24 (vs .u8 K)) (hT : Tab W) (h0 : J [] W) :
    CallsIn Fence.wide nf Tryd.prog 61 #[.func (.yield lp) #[] #[], .pointer (some ⟨gk, 0, none⟩)] W fun e V => (∃ v, e = .returned v) ∧ ∃ pre, pre = List.range (pre.length) ∧ pre ≠ [] ∧ pre.length ≤ d + 1 ∧ Jx pre V := by
  refine callsIn_of_wp Tryd.func61 rfl trivial ?_ rfl
  simp only [Tryd.ntmps61, List.size_toArray, List.length_cons, List.length_nil, Nat.reduceAdd, Nat.reduceSub, Array.replicate_succ, Array.replicate_zero, List.push_toArray, List.append_toArray, List.nil_append, List.cons_append]
  gi_wp2
  gi_loopw [3] (fun i wr => ∃ j : Nat, j ≤ d ∧ i = .int .u64 (j : Int) ∧ J (List.range j) wr ∧ Own wr gk 24 (vs .u8 (it K j)) ∧ Tab wr ∧ W.heap.size ≤ wr.heap.size) (fun i wr => d - (intOf i).toNat)
  case atStart => exact ⟨0, by omega, rfl, h0, o, hT, Nat.le_refl _⟩
  case round =>
    obtain ⟨j, hj, rfl, hJs, og, hTs, hns⟩ := hrel
    have lj := it_len lK j
    have bj := it_by hK j
    have hyj := hY (List.range j) j wr hJs
    rw [← List.range_succ] at hyj
    obtain ⟨fn, tmps, assign, body, hy, hR3⟩ := hyj
    dsimp only [encK] at hy
    gi_wp2_with (refine ldi t28 (.inl rfl) rfl rfl rfl og lj ?_)
    refine hR3.mono ?_
    rintro e W3 (⟨rfl, hJ3, hk3⟩ | ⟨rfl, hJx3⟩)
    · have hne : j ≠ d := hG _ _ hJ3 j (by simp)
      have og3 : Own W3 gk 24 (vs .u8 (it K j)) := hk3.2.1.trans og
      have hT3 := hTs.of3 hk3.2.2
      have hs3 := hk3.1
      have e1 : IntKind.u64.wrap ((j : Int) + 1) = ((j + 1 : Nat) : Int) := by rw [IntWalk.u64_in _ (by omega)]; omega
      clear hy hR3 og hTs hJs
      gi_wp2_with (refine ldi t28 (.inl rfl) rfl rfl rfl og3 lj ?_)
      refine ⟨trivial, (Fr.calls_in (.inl rfl) (next_any (it K j) W3 bj lj hT3)).mono ?_⟩
      rintro e W4 ⟨rfl, hx⟩
      have hJ4 := abides_below hJ hJ3 hx
      have og4 := Below.own hx og3 og3.lt
      have hT4 := hT3.below hx
      have hs4 := hx.size
      have hJ5 := hJk _ _ _ hJ4 (Rg.grownBy_setRow W4 gk (vs .u8 (nxt (it K j))))
      have og5 := og4.row (vs .u8 (nxt (it K j)))
      have hT5 : Tab (W4.setRow gk (vs .u8 (nxt (it K j)))) := hT4.of3 fun k hk => heap_setRow _ _ _ _ (by omega)
      have hs5 : (W4.setRow gk (vs .u8 (nxt (it K j)))).heap.size = W4.heap.size := by simp
      clear hx hJ4 hJ3 og3 hT3 hT4
      gi_wp2_with (refine stoi t28 (.inl rfl) rfl rfl rfl rfl og4 lj (keyed_len _ _) ?_)
      go_roundw
      case rel => exact ⟨j + 1, by omega, by first | rfl | go_num, hJ5, og5, hT5, by omega⟩
      case measure => simp [intOf]; omega
    · clear hy hR3
      gi_wp2
      go_end0
      exact ⟨⟨_, rfl⟩, List.range (j + 1), by simp, by simp, by simp; omega, hJx3⟩
end Go.Proofs.YtaoaebdjinlcnaaDoor
namespace Go.Proofs.YtaoaebdjinlcnaaDoor
set_option linter.unusedVariables false
set_option linter.unusedSimpArgs false
set_option maxRecDepth 100000
open Go.RowKit
attribute [local go_sem] Oper.semAt_some
theorem sto26i {F : Fence} (hF : Fr.Wd F) {n : Nat} {ops : Array Oper} {rest : List Oper} {o : Oper} {a : Act} {w : World} {Q : Exit → Act → World → Prop} {x y : Operand} {g : Nat} {c d : Ch} (hd : d.K.length = 32)
    (hgd : o.guard = none) (ho : o.op = .store 26 x y) (hx : a.eval x = .pointer (some ⟨g, 0, none⟩)) (hy : a.eval y = .agg (chv d)) (hg : Cb w g c)
    (h : wpListIn F n Tryd.prog ops Q rest (a.put o.dst undef) (w.setRow g (chv d))) : wpListIn F n Tryd.prog ops Q (o :: rest) a w :=
  Fr.step_in hF hgd (fun c e => by rw [ho] at e; cases e) (wst26 hd ho hx hy hg h)
theorem bld26zi {F : Fence} (hF : Fr.Wd F) {n : Nat} {ops : Array Oper} {rest : List Oper} {o : Oper} {a : Act} {w : World} {Q : Exit → Act → World → Prop}
    (hgd : o.guard = none) (ho : o.op = .build 26 #[]) (h : wpListIn F n Tryd.prog ops Q rest (a.put o.dst (.agg (chv zCh))) w) : wpListIn F n Tryd.prog ops Q (o :: rest) a w :=
  Fr.step_in hF hgd (fun c e => by rw [ho] at e; cases e) (by
    have hb := run_build (P := Tryd.prog) w 26 #[] (chv zCh) built26z
    unfold Oper.wp execOp
    simp only [ho]
    simp [hb, Result.andThen]
    exact h)
theorem ldki {F : Fence} (hF : Fr.Wd F) {n : Nat} {ops : Array Oper} {rest : List Oper} {o : Oper} {a : Act} {w : World} {Q : Exit → Act → World → Prop} {x : Operand} {g : Nat} {c : Ch}
    (hgd : o.guard = none) (ho : o.op = .load 24 x) (hx : a.eval x = .pointer (some ⟨g, 2, none⟩)) (hg : Cb w g c)
    (h : wpListIn F n Tryd.prog ops Q rest (a.put o.dst (.agg (vs .u8 c.K))) w) : wpListIn F n Tryd.prog ops Q (o :: rest) a w :=
  Fr.step_in hF hgd (fun c e => by rw [ho] at e; cases e) (wp_load_mid 24 x ho g 2 hx (vs .u8 c.K).toList _ hg.rg Tryd.underlying24 rfl (by rw [Array.length_toList, vs_size, hg.k]; exact info24) h)
theorem takeR_eq {c : Ch} {f : ByteArray} {l : List ByteArray} (h : l.map Un.Nm.toL = (Nu.texts (Un.Nm.toL f)).1) (h0 : (Nu.texts (Un.Nm.toL f)).2 = 0) : takeR c f = takeL c l := by
  unfold takeR
  rw [if_pos h0, ← h, map_mkB]
theorem len_three {l : List ByteArray} (h : l.length = 3) : ∃ a b x, l = [a, b, x] := by
  match l, h with
  | [a, b, x], _ => exact ⟨a, b, x, rfl⟩
theorem leaves26 {k : Nat} {R : Ending → World → Prop} {tmps : Array Value} {w : World} {g : Nat} {X : Ch} {v u : Value} (hp : tmps.getD 4 undef = .pointer (some ⟨g, 0, none⟩)) (hq : tmps.getD 5 undef = v) (hs : tmps.getD 6 undef = u)
    (hg : Cb w g X) (hR : R (.returned (.tuple #[.agg (chv X), v, u])) w) : LeavesInM Fence.wide k Tryd.prog Tryd.f18 tmps R [] .returning w := by
  have hp' : tmps[4]?.getD undef = .pointer (some ⟨g, 0, none⟩) := by simpa using hp
  have hq' : tmps[5]?.getD undef = v := by simpa using hq
  have hs' : tmps[6]?.getD undef = u := by simpa using hs
  exact ⟨.tuple #[.agg (chv X), v, u], by simp [results, Tryd.results18, hp', hq', hs', asAddr, run_loadVar_row w g 26 26 _ (0, 0) _ hg.o Tryd.underlying26 rfl (by rw [chv_size _ hg.k]; exact info26)], hR⟩
theorem res26m {k : Nat} {R : Ending → World → Prop} {a : Act} {w : World} {g : Nat} {X : Ch} {v u : Value} (hp : a.tmps.getD 4 undef = .pointer (some ⟨g, 0, none⟩)) (hq : a.tmps.getD 5 undef = v) (hs : a.tmps.getD 6 undef = u)
    (hg : Cb w g X) (hd : a.defers = []) (hR : R (.returned (.tuple #[.agg (chv X), v, u])) w) : bodyPostM Fence.wide k Tryd.prog Tryd.f18 R .ret a w := by
  show LeavesInM Fence.wide k Tryd.prog Tryd.f18 a.tmps R a.defers .returning w
  rw [hd]
  exact leaves26 hp hq hs hg hR
theorem res26d {k : Nat} {R : Ending → World → Prop} {a : Act} {w : World} {g D : Nat} {X : Ch} {v u : Value} (hp : a.tmps.getD 4 undef = .pointer (some ⟨g, 0, none⟩)) (hq : a.tmps.getD 5 undef = v) (hs : a.tmps.getD 6 undef = u)
    (hg : Cb w g X) (hd : a.defers = [{ target := .collected D, args := #[] }]) (hD : w.heap[D]? = some (.deferred (some []))) (hR : R (.returned (.tuple #[.agg (chv X), v, u])) (w.putObj D (.deferred none))) : bodyPostM Fence.wide k Tryd.prog Tryd.f18 R .ret a w := by
  show LeavesInM Fence.wide k Tryd.prog Tryd.f18 a.tmps R a.defers .returning w
  rw [hd]
  have hne : g ≠ D := fun e => by
    have := hg.o
    rw [e] at this
    unfold Own at this
    rw [hD] at this
    cases this
  exact ⟨by simp, .inl ⟨D, _, rfl, run_takeDeferred hD, leaves26 hp hq hs ⟨(World.putObj_heap_other hne).trans hg.o, hg.k⟩ hR⟩⟩
theorem stoin {ty : TypeId} {m : Nat} (T : ArrT ty m) {F : Fence} (hF : Fr.Wd F) {n : Nat} {ops : Array Oper} {rest : List Oper} {o : Oper} {a : Act} {w : World} {Q : Exit → Act → World → Prop} {x y : Operand} {t : TypeId} {l : List Nat} {cs : Array Value}
    (hgd : o.guard = none) (ho : o.op = .store ty x y) (hx : a.eval x = .pointer (some ⟨w.heap.size, 0, none⟩)) (hy : a.eval y = .agg (vs .u8 l)) (hc : cs.size = m) (hl : l.length = m)
    (h : wpListIn F n Tryd.prog ops Q rest (a.put o.dst undef) (w.alloc (.cells (vs .u8 l) t))) : wpListIn F n Tryd.prog ops Q (o :: rest) a (w.alloc (.cells cs t)) :=
  Fr.step_in hF hgd (fun c e => by rw [ho] at e; cases e) (wp_store_row ty x y ho w.heap.size (vs .u8 l) hx hy t cs (Own.new w t cs) (by rw [T.siz, vs_size, hl]) (by rw [vs_size, hc, hl]) (vs_one _ l) (by rw [World.setRow_alloc_new]; exact h))
/-- below n all blocks but y are as they were -/
structure Bz (y n : Nat) (V W : World) : Prop where
  os : W.os = V.os
  tape : W.tape = V.tape
  output : W.output = V.output
  size : V.heap.size ≤ W.heap.size
  block : ∀ k, k < n → k ≠ y → W.heap[k]? = V.heap[k]?
theorem Bz.row {y n : Nat} {V W : World} (h : Below n V W) (cs : Array Value) : Bz y n V (W.setRow y cs) := ⟨h.os, h.tape, h.output, by simp; exact h.size, fun k hk hn => (heap_setRow _ _ _ _ hn).trans (h.block k hk)⟩
theorem Bz.grown {y n : Nat} {V W X : World} {row : Option Nat} (h : Bz y n V W) (hg : W.grownBy X row) (hr : ∀ r, row = some r → n ≤ r) (hn : n ≤ V.heap.size) : Bz y n V X :=
  ⟨hg.os.trans h.os, hg.tape.trans h.tape, hg.output.trans h.output, Nat.le_trans h.size hg.size, fun k hk hne => (hg.block k (by have := h.size; omega) (fun e => by have := hr k e.symm; omega)).trans (h.block k hk hne)⟩
theorem Bz.below {y n B : Nat} {V W X : World} (h : Bz y n V W) (hb : Below B X V) (hB : B ≤ n) (hy : B ≤ y) : Below B X W :=
  ⟨h.os.trans hb.os, h.tape.trans hb.tape, h.output.trans hb.output, Nat.le_trans hb.size h.size, fun k hk => (h.block k (by omega) (by omega)).trans (hb.block k hk)⟩
theorem Bz.own {y n g : Nat} {V W : World} {t : TypeId} {cs : Array Value} (h : Bz y n V W) (o : Own V g t cs) (hg : g < n) (hy : g ≠ y) : Own W g t cs := (h.block g hg hy).trans o
theorem Bz.cell {y n : Nat} {V W : World} {p : Addr} {v : Value} (h : Bz y n V W) (o : V.cell? p = some v) (hg : p.block < n) (hy : p.block ≠ y) : W.cell? p = some v := (World.cell?_of_block (h.block _ hg hy)).trans o
theorem Sv.bz {w V W : World} {c : Ch} {y n : Nat} (h : Sv w c V) (b : Bz y n V W) (hn : w.heap.size + 2 ≤ n) (hy : w.heap.size + 2 ≤ y) : Sv w c W :=
  ⟨⟨b.own h.a.o (by omega) (by omega), h.a.k⟩, ⟨b.own h.r.o (by omega) (by omega), h.r.k⟩, b.below h.b (by omega) (by omega)⟩
theorem Sv.low {w V W : World} {c : Ch} {n : Nat} (h : Sv w c V) (b : Below n V W) (hn : w.heap.size + 2 ≤ n) : Sv w c W :=
  ⟨⟨(b.block _ (by omega)).trans h.a.o, h.a.k⟩, ⟨(b.block _ (by omega)).trans h.r.o, h.r.k⟩, h.b.trans (b.mono (by omega))⟩
theorem bh_hands (nf : Nat) (hn : 1 ≤ nf) (gk d : Nat) (K : List Nat) (hK : Bl.By K) (lK : K.length = 32) (hd : d < 18446744073709551616) (w : World) (hT : Tab w) (o : Own w gk 24 (vs .u8 K)) (h3 : 3 ≤ gk) :
    Rg.Hands nf Tryd.prog gk 61 #[.pointer (some ⟨gk, 0, none⟩)] (encK K) (Kk3 gk) (fun pre => ∀ x ∈ pre, x ≠ d) (fun _ => True) w := fun lp J Jx W hW hJ hJx hJk hG hY h0 =>
  (bh_in nf hn lp gk d K hK lK hd J Jx W hJ hJk hG (by have := o.lt; have := hW.size; omega) h3 hY (Below.own hW o o.lt) (hT.below hW) h0).mono fun e V h => ⟨h.1, by
    obtain ⟨pre, _, _, _, hx⟩ := h.2
    exact ⟨pre, trivial, hx⟩⟩
/-- what is held behind the loop -/
structure S19 (w : World) (c : Ch) (gy gn g D n : Nat) (K : List Nat) (x : ByteArray) (V : World) : Prop where
  v : Sv w c V
  y : Own V gy 24 (vs .u8 K)
  n : V.cell? ⟨gn, 0, none⟩ = some (.int .u64 (n : Int))
  x : V.cell? ⟨g, D, none⟩ = some (.string x)
theorem S19.below {w V W : World} {c : Ch} {gy gn g D n : Nat} {K : List Nat} {x : ByteArray} (h : S19 w c gy gn g D n K x V) (b : Below V.heap.size V W) : S19 w c gy gn g D n K x W :=
  ⟨h.v.below b, Below.own b h.y h.y.lt, cell_below h.n b, cell_below h.x b⟩
theorem S19.drew {w V : World} {c : Ch} {gy gn g D n : Nat} {K : List Nat} {x : ByteArray} (h : S19 w c gy gn g D n K x V) : S19 w c gy gn g D n K x V.drew := ⟨h.v.drew, h.y.drew, h.n, h.x⟩
/-- the mark's block -/
def Mk (D : Nat) (V : World) : Prop := V.heap[D]? = some (.deferred (some []))
theorem Mk.lt {D : Nat} {V : World} (h : Mk D V) : D < V.heap.size := (Array.getElem?_eq_some_iff.1 h).1
theorem Mk.below {D : Nat} {V W : World} (h : Mk D V) (b : Below V.heap.size V W) : Mk D W := (b.block D h.lt).trans h
theorem Mk.row {D g : Nat} {V : World} (h : Mk D V) (hg : D ≠ g) (cs : Array Value) : Mk D (V.setRow g cs) := (heap_setRow _ _ _ _ hg).trans h
theorem Mk.put {D B : Nat} {w V : World} (h : Below B w V) (hw : B ≤ w.heap.size) (hB : B ≤ D) : Below B w (V.putObj D (.deferred none)) := h.grown (grownBy_putObj' V D (.deferred none)) (Nat.le_trans hw h.size) (fun k e => by cases e; exact hB)
theorem take3_bad {c : Ch} {n : Nat} {x : ByteArray} {o : ByteArray × Nat} (ho : openD (Bl.keyed (it c.K (n - c.n)) wS) (headD c.m n) x = o) (h : o.2 ≠ 0) : take3 c n x = bad o.2 := by
  unfold take3
  simp only [ho, if_neg h]
theorem take3_ok {c : Ch} {n : Nat} {x : ByteArray} {o : ByteArray × Nat} (ho : openD (Bl.keyed (it c.K (n - c.n)) wS) (headD c.m n) x = o) (h : o.2 = 0) : take3 c n x = (⟨c.m, n + 1, nxt (it c.K (n - c.n))⟩, o.1, 0) := by
  unfold take3
  simp only [ho, if_pos h]
/-- what is held at last -/
structure Ab (w : World) (c : Ch) (V : World) : Prop where
  a : Cb V w.heap.size c
  b : Below w.heap.size w V
structure S22 (w : World) (c : Ch) (gy gn n : Nat) (K : List Nat) (V : World) : Prop where
  p : Ab w c V
  q : Own V gy 24 (vs .u8 K) ∧ V.cell? ⟨gn, 0, none⟩ = some (.int .u64 (n : Int))
theorem S22.below {w V W : World} {c : Ch} {gy gn n : Nat} {K : List Nat} (h : S22 w c gy gn n K V) (b : Below V.heap.size V W) : S22 w c gy gn n K W :=
  ⟨⟨h.p.a.below b, h.p.b.trans (b.mono h.p.b.size)⟩, Below.own b h.q.1 h.q.1.lt, cell_below h.q.2 b⟩
theorem rowB_ge : ∀ (L : List (List UInt8)) (s : List UInt8), s ∈ L → s.length ≤ (Nu.rowB L).length
  | [], s, h => by cases h
  | t :: L, s, h => by
    rw [Nu.rowB_cons, List.length_append, List.length_append]
    rcases List.mem_cons.1 h with rfl | h
    · omega
    · have := rowB_ge L s h; omega
theorem piece_size {f : ByteArray} {l : List ByteArray} (h : l.map Un.Nm.toL = (Nu.texts (Un.Nm.toL f)).1) (h0 : (Nu.texts (Un.Nm.toL f)).2 = 0) (s : ByteArray) (hs : s ∈ l) : s.size ≤ f.size := by
  have e : Nu.texts (Un.Nm.toL f) = (l.map Un.Nm.toL, 0) := by rw [h, ← h0]
  have e2 := congrArg List.length (Nu.texts_ok e)
  have := rowB_ge (l.map Un.Nm.toL) (Un.Nm.toL s) (List.mem_map_of_mem hs)
  rw [e2, Un.Nm.toL_length, Un.Nm.toL_length] at this
  exact this
set_option maxHeartbeats 4000000 in
theorem take_in (k : Nat) (hk : 4 ≤ k) (c : Ch) (f : ByteArray) (w : World) (hc : c.Ok) (hT : Tab w) (hm : c.m.size ≤ 1000) (hf : f.size ≤ 10000) :
    CallsIn Fence.wide k Tryd.prog 18 #[.agg (chv c), .string f] w fun e w' => e = .returned (rsv (takeR c f)) ∧ Below w.heap.size w w' := by
  have h1 : 1 ≤ k := by omega
  have st0 := Sv.new w c hc.k
  have htx := Un.Nm.texts_any f ((w.alloc (Obj.cells (chv c) 26)).alloc (Obj.cells (chv zCh) 26)) (by omega)
  have lK := hc.k
  have bK := hc.b
  have hcn := hc.n
  refine callsIn_of_wp_marks Tryd.func18 rfl trivial ?_ rfl
  simp only [Tryd.ntmps18, List.size_toArray, List.length_cons, List.length_nil, Nat.reduceAdd, Nat.reduceSub, Array.replicate_succ, Array.replicate_zero, List.push_toArray, List.append_toArray, List.nil_append, List.cons_append]
  gi_wp2
  refine ⟨trivial, (callsIn_wide.2 htx).mono ?_⟩
  rintro e W1 ⟨A, cp, l, rfl, hts, hl, hx⟩
  have st := st0.below hx
  clear hx htx st0
  by_cases he : (Nu.texts (Un.Nm.toL f)).2 = 0
  · have HL := Lib.hid (takeR_eq (c := c) hl he)
    have hps := piece_size hl he
    rw [he]
    clear hl he
    by_cases h3 : l.length = 3
    · obtain ⟨a, b, x, rfl⟩ := len_three h3
      obtain ⟨g, off, rfl, hcell⟩ := hts.2 (by simp)
      have ca : W1.cell? ⟨g, off, none⟩ = some (.string a) := hcell 0 (by simp)
      have cb : W1.cell? ⟨g, off + 1, none⟩ = some (.string b) := hcell 1 (by simp)
      have cx : W1.cell? ⟨g, off + 2, none⟩ = some (.string x) := hcell 2 (by simp)
      have hxz : x.size ≤ 10000 := Nat.le_trans (hps x (by simp)) hf
      clear hcell hts h3 hps
      dsimp only [List.length_cons, List.length_nil]
      by_cases h8 : b.size = 8
      · have h8' : (b.size : Int) = 8 := by omega
        have hge := Un.Nm.get_any b W1 (by omega)
        have hlow : Un.Nm.low b = Un.Nm.toL b := by unfold Un.Nm.low; rw [List.take_of_length_le (by rw [Un.Nm.toL_length]; omega)]
        rw [hlow] at hge
        have hnl := Nu.getB_lt (Un.Nm.toL b)
        rw [Un.Nm.toL_length, h8] at hnl
        have HL2 := Lib.hid (show takeL c [a, b, x] = if a = c.m then take2 c (Nu.getB (Un.Nm.toL b)) x else bad 7 from if_pos h8)
        generalize Nu.getB (Un.Nm.toL b) = n at *
        clear hlow h8
        have hn64 : n < 18446744073709551616 := by simpa using hnl
        clear hnl
        have hgnw := st.lt
        have b22 := grow W1 (Obj.cells #[.int .u64 (n : Int)] 22)
        have st2 := st.below b22
        have on : Own (W1.alloc (Obj.cells #[.int .u64 (n : Int)] 22)) W1.heap.size 22 #[.int .u64 (n : Int)] := Own.new _ _ _
        have ca2 := cell_below ca b22
        have cx2 := cell_below cx b22
        gi_wp2
        refine ⟨trivial, (callsIn_wide.2 hge).mono ?_⟩
        rintro e W1' ⟨rfl, rfl⟩
        gi_wp2
        clear hge ca cx cb b22 st h8'
        generalize W1.alloc (Obj.cells #[Value.int .u64 (n : Int)] 22) = W2 at *
        generalize W1.heap.size = gn at *
        by_cases ha : a = c.m
        · have ha' := str_yes ha
          have HL3 := Lib.hid (HL.out.trans (HL2.out.trans (if_pos ha)))
          clear ha
          refine Fr.region_held (.inl rfl) (S := fun V => Sv w c V ∧ V.cell? ⟨g, off, none⟩ = some (.string a) ∧ Own V gn 22 #[.int .u64 (n : Int)] ∧ V.cell? ⟨g, off + 2, none⟩ = some (.string x)) (by kernel_rfl) (by kernel_rfl) ⟨st2.drew, ca2, on.drew, cx2⟩ (fun hHeld => ?_)
          clear st2 ca2 on cx2
          generalize W2.drew = V0 at *
          refine wpAnyH_take (i := 0) (oi := { dst := some 39, op := Op.move (Operand.tmp 7), type := _, pos := _, after := _, guard := _ }) (v := ?_) rfl (by kernel_rfl) (by kernel_rfl) (by kernel_rfl) (fun _ _ _ h => h) (Or.inl ⟨by rfl, ?_⟩) hHeld ?_
          rotate_left
          · intro wq hSw
            go_simp
            rfl
          try simp only [Act.put, List.setIfInBounds_toArray, List.set_cons_zero, List.set_cons_succ]
          refine wpAnyH_take (i := 1) (oi := { dst := some 40, op := Op.indexAddr 36 (Operand.tmp 39) (Operand.const (Value.int IntKind.i64 0)), type := _, pos := _, after := _, guard := _ }) (v := ?_) rfl (by kernel_rfl) (by kernel_rfl) (by kernel_rfl) (fun _ _ _ h => h) (Or.inl ⟨by rfl, ?_⟩) hHeld ?_
          rotate_left
          · intro wq hSw
            go_simp
            rfl
          try simp only [Act.put, List.setIfInBounds_toArray, List.set_cons_zero, List.set_cons_succ]
          refine wpAnyH_take (i := 2) (oi := { dst := some 41, op := Op.load 9 (Operand.tmp 40), type := _, pos := _, after := _, guard := _ }) (v := ?_) rfl (by kernel_rfl) (by kernel_rfl) (by kernel_rfl) (fun _ _ _ h => h) (Or.inl ⟨by rfl, ?_⟩) hHeld ?_
          rotate_left
          · intro wq hSw
            have ca := hSw.2.1
            go_simp
            rfl
          try simp only [Act.put, List.setIfInBounds_toArray, List.set_cons_zero, List.set_cons_succ]
          refine wpAnyH_take (i := 3) (oi := { dst := some 42, op := Op.fieldAddr 26 (Operand.tmp 2) 0, type := _, pos := _, after := _, guard := _ }) (v := ?_) rfl (by kernel_rfl) (by kernel_rfl) (by kernel_rfl) (fun _ _ _ h => h) (Or.inl ⟨by rfl, ?_⟩) hHeld ?_
          rotate_left
          · intro wq hSw
            go_simp
            rfl
          try simp only [Act.put, List.setIfInBounds_toArray, List.set_cons_zero, List.set_cons_succ]
          refine wpAnyH_take (i := 4) (oi := { dst := some 43, op := Op.load 9 (Operand.tmp 42), type := _, pos := _, after := _, guard := _ }) (v := ?_) rfl (by kernel_rfl) (by kernel_rfl) (by kernel_rfl) (fun _ _ _ h => h) (Or.inl ⟨by rfl, ?_⟩) hHeld ?_
          rotate_left
          · intro wq hSw
            have c0 := hSw.1.a.c0
            go_simp
            rfl
          try simp only [Act.put, List.setIfInBounds_toArray, List.set_cons_zero, List.set_cons_succ]
          refine wpAnyH_take (i := 5) (oi := { dst := some 44, op := Op.binOp BinOp.neq 9 (Operand.tmp 41) (Operand.tmp 43) 9, type := _, pos := _, after := _, guard := _ }) (v := ?_) rfl (by kernel_rfl) (by kernel_rfl) (by kernel_rfl) (fun _ _ _ h => h) (Or.inl ⟨by rfl, ?_⟩) hHeld ?_
          rotate_left
          · intro wq hSw
            go_simp
            rfl
          try simp only [Act.put, List.setIfInBounds_toArray, List.set_cons_zero, List.set_cons_succ]
          refine wpAnyH_take (i := 6) (oi := { dst := some 38, op := Op.assign (Operand.tmp 44), type := _, pos := _, after := _, guard := _ }) (v := ?_) rfl (by kernel_rfl) (by kernel_rfl) (by kernel_rfl) (fun _ _ _ h => h) (Or.inl ⟨by rfl, ?_⟩) hHeld ?_
          rotate_left
          · intro wq hSw
            go_simp
            rfl
          try simp only [Act.put, List.setIfInBounds_toArray, List.set_cons_zero, List.set_cons_succ]
          refine wpAnyH_done (by kernel_rfl) ?_ _
          refine Fr.nq ?_
          have st3 := hHeld.1
          have on := hHeld.2.2.1
          have cx := hHeld.2.2.2
          have cn : V0.cell? ⟨gn, 0, none⟩ = some (.int .u64 (n : Int)) := on.cellv 0
          have c1 := st3.a.c1
          by_cases hlt : n < c.n
          · have hlt' : (n : Int) < (c.n : Int) := by omega
            have HR := Lib.hid (HL3.out.trans (show take2 c n x = bad 19 from if_pos hlt))
            gi_wp2_with (first | refine bld26zi (.inl rfl) rfl rfl ?_ | refine sto26i (.inl rfl) (d := zCh) (c := zCh) zCh_ok.k rfl rfl rfl rfl st3.r ?_)
            exact res26m rfl rfl rfl (st3.r.row zCh zCh_ok.k) rfl ⟨by rw [HR.out]; rfl, below_row st3.b (by omega) _⟩

          have hlt' : ¬ (n : Int) < (c.n : Int) := by omega
          have e2 : IntKind.u64.wrap ((n : Int) - (c.n : Int)) = ((n - c.n : Nat) : Int) := by rw [IntWalk.u64_in _ (by omega)]; omega
          by_cases hfar : 1000 < n - c.n
          · have hfar' : 1000 < ((n - c.n : Nat) : Int) := by omega
            have HR := Lib.hid (HL3.out.trans (show take2 c n x = bad 6 by unfold take2; rw [if_neg hlt, if_pos (.inl hfar)]))
            gi_wp2_with (first | refine bld26zi (.inl rfl) rfl rfl ?_ | refine sto26i (.inl rfl) (d := zCh) (c := zCh) zCh_ok.k rfl rfl rfl rfl st3.r ?_)
            exact res26m rfl rfl rfl (st3.r.row zCh zCh_ok.k) rfl ⟨by rw [HR.out]; rfl, below_row st3.b (by omega) _⟩

          by_cases hmax : n = 18446744073709551615
          · have hfar' : ¬ 1000 < ((n - c.n : Nat) : Int) := by omega
            have hmax' : ((n : Int) == 18446744073709551615) = true := by rw [beq_iff_eq]; omega
            have HR := Lib.hid (HL3.out.trans (show take2 c n x = bad 6 by unfold take2; rw [if_neg hlt, if_pos (.inr hmax)]))
            gi_wp2_with (first | refine bld26zi (.inl rfl) rfl rfl ?_ | refine sto26i (.inl rfl) (d := zCh) (c := zCh) zCh_ok.k rfl rfl rfl rfl st3.r ?_)
            exact res26m rfl rfl rfl (st3.r.row zCh zCh_ok.k) rfl ⟨by rw [HR.out]; rfl, below_row st3.b (by omega) _⟩

          have hfar' : ¬ 1000 < ((n - c.n : Nat) : Int) := by omega
          have hmax' : ((n : Int) == 18446744073709551615) = false := by rw [beq_eq_false_iff_ne]; omega
          have HR := Lib.hid (HL3.out.trans (show take2 c n x = take3 c n x by unfold take2; rw [if_neg hlt, if_neg (by omega)]))
          gi_wp2_with (refine ldki (.inl rfl) rfl rfl rfl (st3.a.alloc _) ?_)
          refine ⟨trivial, ?_⟩
          change CallsIn _ _ _ _ _ (V0.alloc (Obj.cells (vs .u8 (List.replicate 32 0)) 24)) _
          have hg4 := grow V0 (Obj.cells (vs .u8 (List.replicate 32 0)) 24)
          have st4 := st3.below hg4
          have oy : Own (V0.alloc (Obj.cells (vs .u8 (List.replicate 32 0)) 24)) V0.heap.size 24 (vs .u8 (List.replicate 32 0)) := Own.new _ _ _
          have on4 := Below.own hg4 on on.lt
          have cx4 := cell_below cx hg4
          have hgy := st3.lt
          have hgn : gn < V0.heap.size := on.lt
          have hgg : g < V0.heap.size := World.block_lt_of_cell? _ _ cx
          clear st3 on cx cn c1 hg4 hHeld
          generalize V0.alloc (Obj.cells (vs .u8 (List.replicate 32 0)) 24) = V1 at *
          generalize V0.heap.size = gy at *
          refine (callsIn_wide.2 (behind_any c.K V1)).mono ?_
          rintro e V2 ⟨⟨rfl, ok⟩, hx⟩
          have st5 := st4.below hx
          have oy5 := Below.own hx oy oy.lt
          have on5 := Below.own hx on4 on4.lt
          have cx5 := cell_below cx4 hx
          have lgk := ok.lt
          have lgy := oy.lt
          clear st4 oy on4 cx4 hx
          generalize V1.heap.size = gk at *
          gi_wp2
          have hdd : n - c.n < 18446744073709551616 := by omega
          have hlK := fun x => it_len lK x
          have lkk : (vs .u8 (List.replicate 32 0)).size = 32 := by rw [vs_size]; simp
          have hTV : Tab V2 := hT.below st5.b
          have hwl := hT.lt
          refine Rg.range_hands (n := k) h1 (gf := 61) (lb := #[.pointer (some ⟨gk, 0, none⟩)]) rfl (enters_of Tryd.func61 (by kernel_rfl) rfl) (bh_hands (k - 1) (by omega) gk (n - c.n) c.K bK lK hdd V2 hTV ok (by omega)) lgk (Below.refl _ _) (fun _ => rfl)
            (fun h k => h.trans k) (fun W l o o' hl ho hc => Kk3.putObj W o' (by omega) (by omega))
            (fun pre W => (∀ z ∈ pre, z ≠ n - c.n) ∧ Below gk V2 W)
            (fun code pre W => code = .exit 1 ∧ Own W gy 24 (vs .u8 (it c.K (n - c.n))) ∧ Bz gy gk V2 W)
            (fun s Y Z row hs hg hr => ⟨hs.1, hs.2.grown hg (by have := hs.2.size; omega) (fun r e => by have := (hr r e).1; omega)⟩)
            (fun code s Y Z row hs hg hr => ⟨hs.1, (grownBy_keeps_cells hg (fun r e => (hr r e).2) hs.2.1 rfl).trans hs.2.1, hs.2.2.grown hg (fun r e => by have := (hr r e).1; omega) (by omega)⟩)
            (fun pre Y Z hs hg => ⟨hs.1, hs.2.grown hg (by have := hs.2.size; omega) (fun r e => by cases e; exact Nat.le_refl _)⟩)
            ⟨(fun z hz => by cases hz), Below.refl _ _⟩ (fun pre V h => h.1)
            (fun x a' W => ∃ Bx, gk < Bx ∧ Own W Bx 24 (vs .u8 (it c.K x)) ∧ a' = { tmps := #[.agg (chv c), .string f, .pointer (some ⟨w.heap.size, 0, none⟩), undef, .pointer (some ⟨w.heap.size + 1, 0, none⟩), .string ⟨#[]⟩, .int .i64 0, .slice (some ⟨g, off, none⟩) 3 cp, .int .i64 0, .pointer (some ⟨gn, 0, none⟩), .pointer (some ⟨gy, 0, none⟩), .int .u64 (x : Int), .pointer (some ⟨Bx, 0, none⟩), undef, .tuple #[.slice (some ⟨g, off, none⟩) 3 cp, .int .i64 0], .string f, .tuple #[.slice (some ⟨g, off, none⟩) 3 cp, .int .i64 0], .slice (some ⟨g, off, none⟩) 3 cp, .int .i64 0, .int .i64 0, .bool false, undef, undef, .slice (some ⟨g, off, none⟩) 3 cp, .int .i64 3, .bool false, .bool false, .slice (some ⟨g, off, none⟩) 3 cp, .pointer (some ⟨g, off + 1, none⟩), .string b, .int .i64 8, .bool false, .bool false, undef, .slice (some ⟨g, off, none⟩) 3 cp, .pointer (some ⟨g, off + 1, none⟩), .string b, .int .u64 (n : Int), .bool false, .slice (some ⟨g, off, none⟩) 3 cp, .pointer (some ⟨g, off, none⟩), .string a, .pointer (some ⟨w.heap.size, 0, none⟩), .string c.m, .bool false, undef, .bool false, .int .u64 (n : Int), .pointer (some ⟨w.heap.size, 1, none⟩), .int .u64 (c.n : Int), .bool false, undef, .bool false, .int .u64 (n : Int), .pointer (some ⟨w.heap.size, 1, none⟩), .int .u64 (c.n : Int), .int .u64 ((n - c.n : Nat) : Int), .bool false, .bool false, .int .u64 (n : Int), .bool false, .bool false, undef, .pointer (some ⟨w.heap.size, 2, none⟩), .agg (vs .u8 c.K), .func (.func 61) #[] #[.pointer (some ⟨gk, 0, none⟩)], .int .u64 (x : Int), .agg (vs .u8 (it c.K x)), undef, undef, undef, undef, undef, undef, undef, undef, undef, undef, undef, undef, undef, undef, undef, undef, undef, undef, undef, undef, undef, undef, undef, undef, undef, undef, undef, undef, undef, undef, undef, undef], defers := [] })
            (fun x a' _ Y Z row hs hg hr => by obtain ⟨Bx, h0, h1, h3⟩ := hs; exact ⟨Bx, h0, (grownBy_keeps_cells hg (fun r e => (hr r e).2) h1 rfl).trans h1, h3⟩)
            ?assign ?body ?stop
          case assign =>
            rintro l pre x W K' ⟨hne, hb⟩ hK
            unfold encK
            have hgw := grow W (Obj.cells (vs .u8 (it c.K x)) 24)
            have hsw := hb.size
            gi_wp2_with (refine stoin t28 (.inr ⟨_, rfl⟩) rfl rfl rfl rfl lkk (hlK x) ?_)
            exact hK _ _ ((KeepsOthers.alloc _ _).from _) (Kk3.below hgw (by omega) (by omega) hgw.size) ⟨hne, hb.trans (hgw.mono (by omega))⟩ ⟨W.heap.size, by omega, Own.new _ _ _, rfl⟩
          case body =>
            rintro l' pre x a' W hl' ⟨hne, hb⟩ ⟨Bx, hBx, oX, rfl⟩
            have stW := st5.low hb (by omega)
            have cnW : W.cell? ⟨gn, 0, none⟩ = some (.int .u64 (n : Int)) := (World.cell?_of_block (hb.block gn (by omega))).trans (on5.cellv 0)
            have c1W := stW.a.c1
            have oyW : Own W gy 24 (vs .u8 (List.replicate 32 0)) := (hb.block gy (by omega)).trans oy5
            by_cases hx : x = n - c.n
            · have hx' : ((x : Int) == ((n - c.n : Nat) : Int)) = true := by rw [beq_iff_eq]; omega
              have HX := Lib.hid hx
              clear hx
              gi_wp2_with (first | refine ldi t28 (.inr ⟨_, rfl⟩) rfl rfl rfl oX (hlK x) ?_ | refine stoi t28 (.inr ⟨_, rfl⟩) rfl rfl rfl rfl oyW (by simp) (hlK x) ?_)
              have oz := oyW.row (vs .u8 (it c.K x))
              rw [HX.out] at oz
              refine ⟨KeepsFrom.of_grownBy (Rg.grownBy_setRow W gy (vs .u8 (it c.K x))) (fun j e => by cases e; omega), rfl, ?_, Bz.row hb _⟩
              rw [HX.out]
              exact oz
            · have hx' : ((x : Int) == ((n - c.n : Nat) : Int)) = false := by rw [beq_eq_false_iff_ne]; omega
              gi_wp2
              exact ⟨KeepsFrom.refl _ _, ⟨Nat.le_refl _, rfl, fun _ _ => rfl⟩, (fun z hz => by
                rcases List.mem_append.1 hz with h | h
                · exact hne z h
                · rw [List.mem_singleton.1 h]; exact hx), hb⟩
          case stop =>
            rintro D code pre W hD hSp ⟨rfl, oy6, bz⟩ hDef
            have hMk : Mk D W := hDef
            have st6 := st5.bz bz (by omega) hgy
            have hs19 : S19 w c gy gn g (off + 2) n (it c.K (n - c.n)) x W := ⟨st6, oy6, bz.cell (on5.cellv 0) (by show gn < gk; omega) (by show gn ≠ gy; omega), bz.cell cx5 (by show g < gk; omega) (by show g ≠ gy; omega)⟩
            have hDw : w.heap.size + 2 ≤ D := by omega
            clear oy6 bz hDef st6 st5 oy5 on5 cx5 ok hSp hTV
            gi_wp2
            have hKl := hlK (n - c.n)
            have hKb := it_by bK (n - c.n)
            have hhs := headD_size c.m n (by omega)
            have hTb := fun wr (h : Below w.heap.size w wr) => hT.below h
            generalize hKd : it c.K (n - c.n) = Kd at *
            have hkey := fun wr (h : Below w.heap.size w wr) => send_key Kd wr hKb hKl (hTb wr h)
            have hhead := fun wr => head_any c.m n wr hn64 (by omega)
            obtain ⟨o1, o2, hO⟩ : ∃ o1 o2, openD (Bl.keyed Kd wS) (headD c.m n) x = (o1, o2) := ⟨_, _, rfl⟩
            have hop := fun wr (h : Below w.heap.size w wr) => open_any (Bl.keyed Kd wS) (headD c.m n) x wr (keyed_by _ _) (keyed_len _ _) (hTb wr h) (by omega) hxz
            rw [hO] at hop
            have hnx := fun wr (h : Below w.heap.size w wr) => next_any Kd wr hKb hKl (hTb wr h)
            have hO3 : openD (Bl.keyed (it c.K (n - c.n)) wS) (headD c.m n) x = (o1, o2) := by rw [hKd]; exact hO
            refine Fr.region_held (.inl rfl) (S := fun V => S19 w c gy gn g (off + 2) n Kd x V ∧ Mk D V) (by kernel_rfl) (by kernel_rfl) ⟨hs19.drew, hMk⟩ (fun hHeld => ?_)
            clear hs19 hMk
            generalize W.drew = X0 at *
            refine wpAnyH_take (i := 0) (oi := { dst := some 76, op := Op.load 24 (Operand.tmp 10), type := _, pos := _, after := _, guard := _ }) rfl (by kernel_rfl) (by kernel_rfl) (by kernel_rfl) (fun _ _ _ h => h) (yl t28 (by rfl) _ rfl _ rfl (fun w1 h => h.1.y) hKl) hHeld ?_
            try simp only [Act.put, List.setIfInBounds_toArray, List.set_cons_zero, List.set_cons_succ]
            refine wpAnyH_take (i := 2) (oi := { dst := some 78, op := Op.fieldAddr 26 (Operand.tmp 2) 0, type := _, pos := _, after := _, guard := _ }) (v := ?_) rfl (by kernel_rfl) (by kernel_rfl) (by kernel_rfl) (fun _ _ _ h => h) (Or.inl ⟨by rfl, ?_⟩) hHeld ?_
            rotate_left
            · intro wq hSw
              go_simp
              rfl
            try simp only [Act.put, List.setIfInBounds_toArray, List.set_cons_zero, List.set_cons_succ]
            refine wpAnyH_take (i := 3) (oi := { dst := some 79, op := Op.load 9 (Operand.tmp 78), type := _, pos := _, after := _, guard := _ }) (v := ?_) rfl (by kernel_rfl) (by kernel_rfl) (by kernel_rfl) (fun _ _ _ h => h) (Or.inl ⟨by rfl, ?_⟩) hHeld ?_
            rotate_left
            · intro wq hSw
              have c0 := hSw.1.v.a.c0
              go_simp
              rfl
            try simp only [Act.put, List.setIfInBounds_toArray, List.set_cons_zero, List.set_cons_succ]
            refine wpAnyH_take (i := 4) (oi := { dst := some 80, op := Op.load 22 (Operand.tmp 9), type := _, pos := _, after := _, guard := _ }) (v := ?_) rfl (by kernel_rfl) (by kernel_rfl) (by kernel_rfl) (fun _ _ _ h => h) (Or.inl ⟨by rfl, ?_⟩) hHeld ?_
            rotate_left
            · intro wq hSw
              have cn := hSw.1.n
              go_simp
              rfl
            try simp only [Act.put, List.setIfInBounds_toArray, List.set_cons_zero, List.set_cons_succ]
            refine wpAnyH_take (i := 6) (oi := { dst := some 82, op := Op.move (Operand.tmp 7), type := _, pos := _, after := _, guard := _ }) (v := ?_) rfl (by kernel_rfl) (by kernel_rfl) (by kernel_rfl) (fun _ _ _ h => h) (Or.inl ⟨by rfl, ?_⟩) hHeld ?_
            rotate_left
            · intro wq hSw
              go_simp
              rfl
            try simp only [Act.put, List.setIfInBounds_toArray, List.set_cons_zero, List.set_cons_succ]
            refine wpAnyH_take (i := 7) (oi := { dst := some 83, op := Op.indexAddr 36 (Operand.tmp 82) (Operand.const (Value.int IntKind.i64 2)), type := _, pos := _, after := _, guard := _ }) (v := ?_) rfl (by kernel_rfl) (by kernel_rfl) (by kernel_rfl) (fun _ _ _ h => h) (Or.inl ⟨by rfl, ?_⟩) hHeld ?_
            rotate_left
            · intro wq hSw
              go_simp
              rfl
            try simp only [Act.put, List.setIfInBounds_toArray, List.set_cons_zero, List.set_cons_succ]
            refine wpAnyH_take (i := 8) (oi := { dst := some 84, op := Op.load 9 (Operand.tmp 83), type := _, pos := _, after := _, guard := _ }) (v := ?_) rfl (by kernel_rfl) (by kernel_rfl) (by kernel_rfl) (fun _ _ _ h => h) (Or.inl ⟨by rfl, ?_⟩) hHeld ?_
            rotate_left
            · intro wq hSw
              have cx := hSw.1.x
              go_simp
              rfl
            try simp only [Act.put, List.setIfInBounds_toArray, List.set_cons_zero, List.set_cons_succ]
            refine wpAnyH_ready (rs := [1]) (by kernel_rfl) (by simp) ?_
            refine AllReadyH.cons (o := { dst := some 77, op := Op.call { callee := Callee.value (Operand.func 28), args := #[Operand.tmp 76], argTypes := #[24] }, type := _, pos := _, after := _, guard := _ }) rfl (fun KK hKK => ?_) AllReadyH.nil
            have hKS := Lib.hid hKK
            clear hKK
            go_simp
            refine (hkey _ hHeld.1.v.b).mono ?_
            rintro e w1 ⟨rfl, hx⟩
            go_wp2_with fail
            refine hKS.out.out _ _ (⟨hHeld.1.below hx, hHeld.2.below hx⟩) (fun hHeld => ?_)
            clear hKS KK hx
            try simp only [Act.put, List.setIfInBounds_toArray, List.set_cons_zero, List.set_cons_succ]
            refine wpAnyH_ready (rs := [5]) (by kernel_rfl) (by simp) ?_
            refine AllReadyH.cons (o := { dst := some 81, op := Op.call { callee := Callee.value (Operand.func 30), args := #[Operand.tmp 79, Operand.tmp 80], argTypes := #[9, 22] }, type := _, pos := _, after := _, guard := _ }) rfl (fun KK hKK => ?_) AllReadyH.nil
            have hKS := Lib.hid hKK
            clear hKK
            go_simp
            refine (hhead _).mono ?_
            rintro e w5 ⟨rfl, hx⟩
            go_wp2_with fail
            refine hKS.out.out _ _ (⟨hHeld.1.below hx, hHeld.2.below hx⟩) (fun hHeld => ?_)
            clear hKS KK hx
            try simp only [Act.put, List.setIfInBounds_toArray, List.set_cons_zero, List.set_cons_succ]
            refine wpAnyH_ready (rs := [9]) (by kernel_rfl) (by simp) ?_
            refine AllReadyH.cons (o := { dst := some 85, op := Op.call { callee := Callee.value (Operand.func 41), args := #[Operand.tmp 77, Operand.tmp 81, Operand.tmp 84], argTypes := #[24, 9, 9] }, type := _, pos := _, after := _, guard := _ }) rfl (fun KK hKK => ?_) AllReadyH.nil
            have hKS := Lib.hid hKK
            clear hKK
            go_simp
            refine (hop _ hHeld.1.v.b).mono ?_
            rintro e w9 ⟨rfl, hx⟩
            go_wp2_with fail
            refine hKS.out.out _ _ (⟨hHeld.1.below hx, hHeld.2.below hx⟩) (fun hHeld => ?_)
            clear hKS KK hx
            try simp only [Act.put, List.setIfInBounds_toArray, List.set_cons_zero, List.set_cons_succ]
            refine wpAnyH_take (i := 10) (oi := { dst := some 75, op := Op.move (Operand.tmp 85), type := _, pos := _, after := _, guard := _ }) (v := ?_) rfl (by kernel_rfl) (by kernel_rfl) (by kernel_rfl) (fun _ _ _ h => h) (Or.inl ⟨by rfl, ?_⟩) hHeld ?_
            rotate_left
            · intro wq hSw
              go_simp
              rfl
            try simp only [Act.put, List.setIfInBounds_toArray, List.set_cons_zero, List.set_cons_succ]
            refine wpAnyH_take (i := 11) (oi := { dst := some 86, op := Op.extract (Operand.tmp 75) 0, type := _, pos := _, after := _, guard := _ }) (v := ?_) rfl (by kernel_rfl) (by kernel_rfl) (by kernel_rfl) (fun _ _ _ h => h) (Or.inl ⟨by rfl, ?_⟩) hHeld ?_
            rotate_left
            · intro wq hSw
              go_simp
              rfl
            try simp only [Act.put, List.setIfInBounds_toArray, List.set_cons_zero, List.set_cons_succ]
            refine wpAnyH_take (i := 12) (oi := { dst := some 87, op := Op.extract (Operand.tmp 75) 1, type := _, pos := _, after := _, guard := _ }) (v := ?_) rfl (by kernel_rfl) (by kernel_rfl) (by kernel_rfl) (fun _ _ _ h => h) (Or.inl ⟨by rfl, ?_⟩) hHeld ?_
            rotate_left
            · intro wq hSw
              go_simp
              rfl
            try simp only [Act.put, List.setIfInBounds_toArray, List.set_cons_zero, List.set_cons_succ]
            refine wpAnyH_take (i := 13) (oi := { dst := some 13, op := Op.assign (Operand.tmp 86), type := _, pos := _, after := _, guard := _ }) (v := ?_) rfl (by kernel_rfl) (by kernel_rfl) (by kernel_rfl) (fun _ _ _ h => h) (Or.inl ⟨by rfl, ?_⟩) hHeld ?_
            rotate_left
            · intro wq hSw
              go_simp
              rfl
            try simp only [Act.put, List.setIfInBounds_toArray, List.set_cons_zero, List.set_cons_succ]
            refine wpAnyH_take (i := 14) (oi := { dst := some 8, op := Op.assign (Operand.tmp 87), type := _, pos := _, after := _, guard := _ }) (v := ?_) rfl (by kernel_rfl) (by kernel_rfl) (by kernel_rfl) (fun _ _ _ h => h) (Or.inl ⟨by rfl, ?_⟩) hHeld ?_
            rotate_left
            · intro wq hSw
              go_simp
              rfl
            try simp only [Act.put, List.setIfInBounds_toArray, List.set_cons_zero, List.set_cons_succ]
            refine wpAnyH_done (by kernel_rfl) ?_ _
            refine Fr.nq ?_
            clear hkey hhead hop
            have st7 := hHeld.1.v
            by_cases ho : o2 = 0
            · subst ho
              have HR2 := Lib.hid (HR.out.trans (take3_ok hO3 rfl))
              rw [hKd] at HR2
              clear hO3 hO hKd
              have e3 : IntKind.u64.wrap ((n : Int) + 1) = ((n + 1 : Nat) : Int) := by rw [IntWalk.u64_in _ (by omega)]; omega
              gi_wp2
              have oA := st7.r.drew
              refine Fr.region_held (.inl rfl) (S := fun V => S22 w c gy gn n Kd V ∧ Mk D V) (by kernel_rfl) (by kernel_rfl) ⟨⟨⟨st7.a.drew, st7.b.drew⟩, hHeld.1.y.drew, hHeld.1.n⟩, hHeld.2⟩ (fun hHeld => ?_)
              clear st7
              generalize w9.drew = Y0 at *
              refine wpAnyH_take (i := 0) (oi := { dst := some 92, op := Op.fieldAddr 26 (Operand.tmp 2) 0, type := _, pos := _, after := _, guard := _ }) (v := ?_) rfl (by kernel_rfl) (by kernel_rfl) (by kernel_rfl) (fun _ _ _ h => h) (Or.inl ⟨by rfl, ?_⟩) hHeld ?_
              rotate_left
              · intro wq hSw
                go_simp
                rfl
              try simp only [Act.put, List.setIfInBounds_toArray, List.set_cons_zero, List.set_cons_succ]
              refine wpAnyH_take (i := 1) (oi := { dst := some 93, op := Op.load 9 (Operand.tmp 92), type := _, pos := _, after := _, guard := _ }) (v := ?_) rfl (by kernel_rfl) (by kernel_rfl) (by kernel_rfl) (fun _ _ _ h => h) (Or.inl ⟨by rfl, ?_⟩) hHeld ?_
              rotate_left
              · intro wq hSw
                have c0 := hSw.1.1.a.c0
                go_simp
                rfl
              try simp only [Act.put, List.setIfInBounds_toArray, List.set_cons_zero, List.set_cons_succ]
              refine wpAnyH_take (i := 2) (oi := { dst := some 94, op := Op.load 22 (Operand.tmp 9), type := _, pos := _, after := _, guard := _ }) (v := ?_) rfl (by kernel_rfl) (by kernel_rfl) (by kernel_rfl) (fun _ _ _ h => h) (Or.inl ⟨by rfl, ?_⟩) hHeld ?_
              rotate_left
              · intro wq hSw
                have cn := hSw.1.2.2
                go_simp
                rfl
              try simp only [Act.put, List.setIfInBounds_toArray, List.set_cons_zero, List.set_cons_succ]
              refine wpAnyH_take (i := 3) (oi := { dst := some 95, op := Op.binOp BinOp.add 22 (Operand.tmp 94) (Operand.const (Value.int IntKind.u64 1)) 22, type := _, pos := _, after := _, guard := _ }) (v := ?_) rfl (by kernel_rfl) (by kernel_rfl) (by kernel_rfl) (fun _ _ _ h => h) (Or.inl ⟨by rfl, ?_⟩) hHeld ?_
              rotate_left
              · intro wq hSw
                go_simp
                rfl
              try simp only [Act.put, List.setIfInBounds_toArray, List.set_cons_zero, List.set_cons_succ]
              refine wpAnyH_take (i := 4) (oi := { dst := some 96, op := Op.load 24 (Operand.tmp 10), type := _, pos := _, after := _, guard := _ }) rfl (by kernel_rfl) (by kernel_rfl) (by kernel_rfl) (fun _ _ _ h => h) (yl t28 (by rfl) _ rfl _ rfl (fun w1 h => h.1.2.1) hKl) hHeld ?_
              try simp only [Act.put, List.setIfInBounds_toArray, List.set_cons_zero, List.set_cons_succ]
              refine wpAnyH_take (i := 7) (oi := { dst := some 99, op := Op.move (Operand.tmp 13), type := _, pos := _, after := _, guard := _ }) (v := ?_) rfl (by kernel_rfl) (by kernel_rfl) (by kernel_rfl) (fun _ _ _ h => h) (Or.inl ⟨by rfl, ?_⟩) hHeld ?_
              rotate_left
              · intro wq hSw
                go_simp
                rfl
              try simp only [Act.put, List.setIfInBounds_toArray, List.set_cons_zero, List.set_cons_succ]
              refine wpAnyH_ready (rs := [5]) (by kernel_rfl) (by simp) ?_
              refine AllReadyH.cons (o := { dst := some 97, op := Op.call { callee := Callee.value (Operand.func 14), args := #[Operand.tmp 96], argTypes := #[24] }, type := _, pos := _, after := _, guard := _ }) rfl (fun KK hKK => ?_) AllReadyH.nil
              have hKS := Lib.hid hKK
              clear hKK
              go_simp
              refine (hnx _ hHeld.1.1.b).mono ?_
              rintro e w5 ⟨rfl, hx⟩
              go_wp2_with fail
              refine hKS.out.out _ _ (⟨hHeld.1.below hx, hHeld.2.below hx⟩) (fun hHeld => ?_)
              replace oA := oA.below hx
              clear hKS KK hx
              try simp only [Act.put, List.setIfInBounds_toArray, List.set_cons_zero, List.set_cons_succ]
              refine wpAnyH_take (i := 6) (oi := { dst := some 98, op := Op.build 26 #[(0, Operand.tmp 93), (1, Operand.tmp 95), (2, Operand.tmp 97)], type := _, pos := _, after := _, guard := _ }) rfl (by kernel_rfl) (by kernel_rfl) (by kernel_rfl) (fun _ _ _ h => h) (ybld26 ⟨c.m, n + 1, nxt Kd⟩ (keyed_len _ _) (by rfl) rfl rfl rfl rfl) hHeld ?_
              try simp only [Act.put, List.setIfInBounds_toArray, List.set_cons_zero, List.set_cons_succ]
              refine wpAnyH_ready (rs := [8]) (by kernel_rfl) (by simp) ?_
              refine AllReadyH.cons (o := { dst := none, op := Op.store 26 (Operand.tmp 4) (Operand.tmp 98), type := _, pos := _, after := _, guard := _ }) rfl (fun KK hKK => ?_) AllReadyH.nil
              have hKS := Lib.hid hKK
              clear hKK
              refine wst26 (d := ⟨c.m, n + 1, nxt Kd⟩) (c := zCh) (keyed_len _ _) rfl rfl rfl oA ?_
              have oR := oA.row ⟨c.m, n + 1, nxt Kd⟩ (keyed_len _ _)
              have bR := below_row hHeld.1.1.b (show w.heap.size ≤ w.heap.size + 1 by omega) (chv ⟨c.m, n + 1, nxt Kd⟩)
              refine hKS.out.out _ _ ⟨⟨⟨hHeld.1.1.a.rowOther _ (by omega), bR⟩, hHeld.1.2.1.rowOther _ _ (by omega), (World.cell?_of_block (heap_setRow _ _ _ _ (by show gn ≠ _; omega))).trans hHeld.1.2.2⟩, hHeld.2.row (by omega) _⟩ (fun hHeld => ?_)
              clear hKS KK oA
              try simp only [Act.put, List.setIfInBounds_toArray, List.set_cons_zero, List.set_cons_succ]
              refine wpAnyH_take (i := 9) (oi := { dst := some 5, op := Op.assign (Operand.tmp 99), type := _, pos := _, after := _, guard := _ }) (v := ?_) rfl (by kernel_rfl) (by kernel_rfl) (by kernel_rfl) (fun _ _ _ h => h) (Or.inl ⟨by rfl, ?_⟩) hHeld ?_
              rotate_left
              · intro wq hSw
                go_simp
                rfl
              try simp only [Act.put, List.setIfInBounds_toArray, List.set_cons_zero, List.set_cons_succ]
              refine wpAnyH_take (i := 10) (oi := { dst := some 6, op := Op.assign (Operand.const (Value.int IntKind.i64 0)), type := _, pos := _, after := _, guard := _ }) (v := ?_) rfl (by kernel_rfl) (by kernel_rfl) (by kernel_rfl) (fun _ _ _ h => h) (Or.inl ⟨by rfl, ?_⟩) hHeld ?_
              rotate_left
              · intro wq hSw
                go_simp
                rfl
              try simp only [Act.put, List.setIfInBounds_toArray, List.set_cons_zero, List.set_cons_succ]
              refine wpAnyH_done (by kernel_rfl) ?_ _
              refine Fr.nq ?_
              gi_wp2
              exact res26d rfl rfl rfl oR rfl hHeld.2 ⟨by rw [HR2.out]; rfl, Mk.put bR (Nat.le_refl _) (by omega)⟩
            · have ho' : ((o2 : Int) == 0) = false := by rw [beq_eq_false_iff_ne]; omega
              have HR2 := Lib.hid (HR.out.trans (take3_bad hO3 ho))
              have hM := hHeld.2
              clear hO3 hO hKd hHeld
              gi_wp2_with (first | refine bld26zi (.inl rfl) rfl rfl ?_ | refine sto26i (.inl rfl) (d := zCh) (c := zCh) zCh_ok.k rfl rfl rfl rfl st7.r ?_)
              exact res26d rfl rfl rfl (st7.r.row zCh zCh_ok.k) rfl (hM.row (by omega) _) ⟨by rw [HR2.out]; rfl, Mk.put (below_row st7.b (by omega) _) (Nat.le_refl _) (by omega)⟩
        · have ha' := str_no ha
          have HR := Lib.hid (HL.out.trans (HL2.out.trans (if_neg ha)))
          refine Fr.region_held (.inl rfl) (S := fun V => Sv w c V ∧ V.cell? ⟨g, off, none⟩ = some (.string a) ∧ Own V gn 22 #[.int .u64 (n : Int)] ∧ V.cell? ⟨g, off + 2, none⟩ = some (.string x)) (by kernel_rfl) (by kernel_rfl) ⟨st2.drew, ca2, on.drew, cx2⟩ (fun hHeld => ?_)
          clear st2 ca2 on cx2
          generalize W2.drew = V0 at *
          refine wpAnyH_take (i := 0) (oi := { dst := some 39, op := Op.move (Operand.tmp 7), type := _, pos := _, after := _, guard := _ }) (v := ?_) rfl (by kernel_rfl) (by kernel_rfl) (by kernel_rfl) (fun _ _ _ h => h) (Or.inl ⟨by rfl, ?_⟩) hHeld ?_
          rotate_left
          · intro wq hSw
            go_simp
            rfl
          try simp only [Act.put, List.setIfInBounds_toArray, List.set_cons_zero, List.set_cons_succ]
          refine wpAnyH_take (i := 1) (oi := { dst := some 40, op := Op.indexAddr 36 (Operand.tmp 39) (Operand.const (Value.int IntKind.i64 0)), type := _, pos := _, after := _, guard := _ }) (v := ?_) rfl (by kernel_rfl) (by kernel_rfl) (by kernel_rfl) (fun _ _ _ h => h) (Or.inl ⟨by rfl, ?_⟩) hHeld ?_
          rotate_left
          · intro wq hSw
            go_simp
            rfl
          try simp only [Act.put, List.setIfInBounds_toArray, List.set_cons_zero, List.set_cons_succ]
          refine wpAnyH_take (i := 2) (oi := { dst := some 41, op := Op.load 9 (Operand.tmp 40), type := _, pos := _, after := _, guard := _ }) (v := ?_) rfl (by kernel_rfl) (by kernel_rfl) (by kernel_rfl) (fun _ _ _ h => h) (Or.inl ⟨by rfl, ?_⟩) hHeld ?_
          rotate_left
          · intro wq hSw
            have ca := hSw.2.1
            go_simp
            rfl
          try simp only [Act.put, List.setIfInBounds_toArray, List.set_cons_zero, List.set_cons_succ]
          refine wpAnyH_take (i := 3) (oi := { dst := some 42, op := Op.fieldAddr 26 (Operand.tmp 2) 0, type := _, pos := _, after := _, guard := _ }) (v := ?_) rfl (by kernel_rfl) (by kernel_rfl) (by kernel_rfl) (fun _ _ _ h => h) (Or.inl ⟨by rfl, ?_⟩) hHeld ?_
          rotate_left
          · intro wq hSw
            go_simp
            rfl
          try simp only [Act.put, List.setIfInBounds_toArray, List.set_cons_zero, List.set_cons_succ]
          refine wpAnyH_take (i := 4) (oi := { dst := some 43, op := Op.load 9 (Operand.tmp 42), type := _, pos := _, after := _, guard := _ }) (v := ?_) rfl (by kernel_rfl) (by kernel_rfl) (by kernel_rfl) (fun _ _ _ h => h) (Or.inl ⟨by rfl, ?_⟩) hHeld ?_
          rotate_left
          · intro wq hSw
            have c0 := hSw.1.a.c0
            go_simp
            rfl
          try simp only [Act.put, List.setIfInBounds_toArray, List.set_cons_zero, List.set_cons_succ]
          refine wpAnyH_take (i := 5) (oi := { dst := some 44, op := Op.binOp BinOp.neq 9 (Operand.tmp 41) (Operand.tmp 43) 9, type := _, pos := _, after := _, guard := _ }) (v := ?_) rfl (by kernel_rfl) (by kernel_rfl) (by kernel_rfl) (fun _ _ _ h => h) (Or.inl ⟨by rfl, ?_⟩) hHeld ?_
          rotate_left
          · intro wq hSw
            go_simp
            rfl
          try simp only [Act.put, List.setIfInBounds_toArray, List.set_cons_zero, List.set_cons_succ]
          refine wpAnyH_take (i := 6) (oi := { dst := some 38, op := Op.assign (Operand.tmp 44), type := _, pos := _, after := _, guard := _ }) (v := ?_) rfl (by kernel_rfl) (by kernel_rfl) (by kernel_rfl) (fun _ _ _ h => h) (Or.inl ⟨by rfl, ?_⟩) hHeld ?_
          rotate_left
          · intro wq hSw
            go_simp
            rfl
          try simp only [Act.put, List.setIfInBounds_toArray, List.set_cons_zero, List.set_cons_succ]
          refine wpAnyH_done (by kernel_rfl) ?_ _
          refine Fr.nq ?_
          gi_wp2_with (first | refine bld26zi (.inl rfl) rfl rfl ?_ | refine sto26i (.inl rfl) (d := zCh) (c := zCh) zCh_ok.k rfl rfl rfl rfl hHeld.1.r ?_)
          exact res26m rfl rfl rfl (hHeld.1.r.row zCh zCh_ok.k) rfl ⟨by rw [HR.out]; rfl, below_row hHeld.1.b (by omega) _⟩
      · have h8' : ((b.size : Int) == 8) = false := by rw [beq_eq_false_iff_ne]; omega
        have HR := Lib.hid (show takeR c f = bad 3 from HL.out.trans (if_neg h8))
        gi_wp2_with (first | refine bld26zi (.inl rfl) rfl rfl ?_ | refine sto26i (.inl rfl) (d := zCh) (c := zCh) zCh_ok.k rfl rfl rfl rfl st.r ?_)
        exact res26m rfl rfl rfl (st.r.row zCh zCh_ok.k) rfl ⟨by rw [HR.out]; rfl, below_row st.b (by omega) _⟩

    · have h3' : ((l.length : Int) == 3) = false := by rw [beq_eq_false_iff_ne]; omega
      have HR := Lib.hid (show takeR c f = bad 3 from HL.out.trans (takeL_len c l h3))
      clear hts
      gi_wp2_with (first | refine bld26zi (.inl rfl) rfl rfl ?_ | refine sto26i (.inl rfl) (d := zCh) (c := zCh) zCh_ok.k rfl rfl rfl rfl st.r ?_)
      exact res26m rfl rfl rfl (st.r.row zCh zCh_ok.k) rfl ⟨by rw [HR.out]; rfl, below_row st.b (by omega) _⟩

  · have HR := Lib.hid (show takeR c f = bad (Nu.texts (Un.Nm.toL f)).2 from if_neg he)
    have he' : (((Nu.texts (Un.Nm.toL f)).2 : Int) == 0) = false := by rw [beq_eq_false_iff_ne]; omega
    clear hl hts he
    generalize (Nu.texts (Un.Nm.toL f)).2 = E at *
    gi_wp2_with (first | refine bld26zi (.inl rfl) rfl rfl ?_ | refine sto26i (.inl rfl) (d := zCh) (c := zCh) zCh_ok.k rfl rfl rfl rfl st.r ?_)
    exact res26m rfl rfl rfl (st.r.row zCh zCh_ok.k) rfl ⟨by rw [HR.out]; rfl, below_row st.b (by omega) _⟩

theorem stake_any (c : Ch) (f : ByteArray) (w : World) (hc : c.Ok) (hT : Tab w) (hm : c.m.size ≤ 1000) (hf : f.size ≤ 10000) :
    Calls Tryd.prog 18 #[.agg (chv c), .string f] w fun e w' => e = .returned (rsv (takeR c f)) ∧ Below w.heap.size w w' := callsIn_wide.1 (take_in 4 (by omega) c f w hc hT hm hf)
end Go.Proofs.YtaoaebdjinlcnaaDoor
