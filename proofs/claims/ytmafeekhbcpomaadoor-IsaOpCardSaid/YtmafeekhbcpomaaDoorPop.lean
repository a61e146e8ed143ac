/-
  For every name and number: IsaOp answers true (the operation of a name is the document's; each from 1 to 31 is one), and the arguments read behind the call as they read before; the package tables are laid by the program's own text.
-/
import Derived.Test.YtmafeekhbcpomaaDoorRows
import Derived.Test.YtmafeekhbcpomaaDoorCards
import Derived.Test.YtmafeekhbcpomaaDoorTie
import Derived.Test.YtmafeekhbcpomaaDoorLa
import Derived.Test.YtmafeekhbcpomaaDoorLk
import Derived.WalkKit
import Derived.ProofKit
import Derived.LaidMore
import Derived.OpenShut
import Derived.ShutString
import Derived.Stop.Joined
namespace Go.Proofs.YtmafeekhbcpomaaDoor.isaOp
open Go.ChangeShapes Go.WideShapes Go.ChangeAt Go.RowKit
open Go.ChangeMaps (open_string shut_string)
set_option linter.unusedVariables false
set_option linter.unusedSimpArgs false

theorem own : ownKnob Tryd.prog.godebug = none := by kernel_rfl
theorem door_met (os : Os) (args : Array Value) : laidMetH Tryd.prog lay4 ((World.doorLaid Tryd.prog 400 os).forCall (fun _ _ => 0) ⟨#[], args, []⟩).memory :=
  laidMetH_of_parts3 (fuel := 8) (laidMet_of_run' 8 (by kernel_rfl) (by kernel_rfl)) (by kernel_rfl) (by kernel_rfl)
theorem enc_op : ∀ n, n < 256 → ((Is.enc ⟨n, 0, 0, 0, 0⟩).2 = 0 ↔ 1 ≤ n ∧ n ≤ 31) := by decide +kernel
theorem opTo_le {s : ByteArray} {i : Nat} : ∀ {k}, opTo s k = some i → 1 ≤ i ∧ i ≤ k
  | 0, h => by cases h
  | k + 1, h => by
    rw [opTo] at h
    cases e : opTo s k with
    | some j => rw [e] at h; cases h; have := opTo_le e; omega
    | none =>
      rw [e] at h
      simp only at h
      split at h
      · cases h; omega
      · cases h
theorem opIs_is {s : ByteArray} {e : Ending} (h : opIs s e) : e = match opOf s with
  | some i => .returned (.tuple #[.int .u8 (i : Nat), .bool true])
  | none => .returned (.tuple #[.int .u8 0, .bool false]) := h
set_option maxRecDepth 100000 in
set_option maxHeartbeats 1000000 in
theorem walk (ha : ∀ wr, Tab wr → Al wr) (s : ByteArray) (n : Nat) (ws : s.size ≤ maxLen) (hn : n < 256) (W : World) (hT : Tab W) :
    Calls Tryd.prog 7 #[.string s, .int .u8 n] W fun e w' => e = .returned (.bool true) ∧ Below W.heap.size W w' := by
  unfold maxLen at ws
  by_cases hbig : 50 < s.size
  · have d0 : 50 < (s.size : Int) := by omega
    go_enter Tryd.func7, Tryd.ntmps7
    go_wp2_with fail
    refine (ha _ hT).mono ?_
    rintro e w1 ⟨rfl, b1⟩
    go_wp2_with fail
    go_ret
    exact ⟨rfl, b1⟩
  · have d0 : decide (50 < (s.size : Int)) = false := by rw [decide_eq_false_iff_not]; omega
    have h1 := fun wr hT => (op_any s wr hT).mono fun e w' (h : opIs s e ∧ wr = w') => And.intro (opIs_is h.1) h.2
    have h2 := fun wr => (rop_any s wr).mono fun e w' (h : opIs s e ∧ _) => And.intro (opIs_is h.1) h.2
    have h3 := fun wr => enc_any ⟨n, 0, 0, 0, 0⟩ (by refine ⟨?_, ?_, ?_, ?_, ?_, ?_⟩ <;> simp only <;> omega) wr
    have ho : ∀ i, opOf s = some i → 1 ≤ i ∧ i ≤ 31 := fun i h => opTo_le h
    have he := enc_op n hn
    have l1 : (n : Int) < 256 := by omega
    simp only [ic_mk] at h3
    generalize Is.enc ⟨n, 0, 0, 0, 0⟩ = r at *
    obtain ⟨v, q⟩ := r
    simp only at h3 he
    have hq : (q = 0 ∧ 1 ≤ (n : Int) ∧ (n : Int) ≤ 31) ∨ ((((q : Int) == 0) = false) ∧ ((decide (1 ≤ (n : Int)) = false) ∨ (1 ≤ (n : Int) ∧ decide ((n : Int) ≤ 31) = false))) := by
      by_cases h : q = 0
      · have := he.1 h; exact .inl ⟨h, by omega, by omega⟩
      · right
        refine ⟨by rw [beq_eq_false_iff_ne]; omega, ?_⟩
        by_cases h1 : 1 ≤ n
        · right
          refine ⟨by omega, ?_⟩
          rw [decide_eq_false_iff_not]
          intro h2
          exact h (he.2 ⟨h1, by omega⟩)
        · left; rw [decide_eq_false_iff_not]; omega
    clear he hbig
    generalize opOf s = p at *
    rcases p with _ | i
    all_goals
      simp only at h1 h2
      first
        | (have hi := ho _ rfl; have i1 : 0 < (_ : Int) := (show (0 : Int) < (_ : Nat) from Int.ofNat_lt.2 hi.1))
        | skip
      clear ho
      rcases hq with ⟨rfl, q1, q2⟩ | ⟨q0, q1 | ⟨q1, q2⟩⟩ <;>
      · go_enter Tryd.func7, Tryd.ntmps7
        go_wp2_with fail
        refine (ha _ hT).mono ?_
        rintro e w1 ⟨rfl, b1⟩
        have hT1 := hT.below b1
        go_wp2_with fail
        refine (h1 _ hT1).mono ?_
        rintro e w2 ⟨rfl, rfl⟩
        go_wp2_with fail
        refine (h2 _).mono ?_
        rintro e w3 ⟨rfl, b3⟩
        replace b3 := b1.trans (b3.mono b1.size)
        clear b1 h1 h2
        go_wp2_with fail
        refine (h3 _).mono ?_
        rintro e w4 ⟨rfl, b4⟩
        replace b4 := b3.trans ((grow _ _).trans (b4.mono (grow _ _).size) |>.mono b3.size)
        clear b3
        go_wp2_with fail
        go_ret
        exact ⟨rfl, b4⟩

set_option maxRecDepth 100000 in
theorem lifted (os : Os) (started : os.Started) (H : Type) (enc : TypeId × Value → H) :
    ReturnsInHanded {} Tryd.checked os 7 .any (fun w args => (Rows.isaOpSpec.pre enc Tryd.prog Tryd.f7 [] false w args ∧ laidMetH Tryd.prog lay4 w) ∧ sizedMet enc Tryd.prog Tryd.f7 (OpenSpec.ofChange Rows.isaOpSpec) false w args)
      (Rows.isaOpSpec.post enc Tryd.prog Tryd.f7 false true false false) := by
  refine returnsInHanded_of_change_and (C := Tryd.checked) (X := fun w _ => laidMetH Tryd.prog lay4 w) (fun _ _ _ hh h => h.of_heap hh) own started (by kernel_rfl) Tryd.func7
    (ChangeSpec.witness_shaped (enc := enc) (C := Tryd.checked) (os := os) (X := fun w _ => laidMetH Tryd.prog lay4 w) false (World.doorLaid Tryd.prog 400 os) #[.string ByteArray.empty, .int .u8 0] 8 rfl (World.shaped_of_RefB (by kernel_rfl) (by kernel_rfl)) (by kernel_rfl) (by kernel_rfl) (by kernel_rfl) (door_met os _)) ?_
  intro W base args ds gs before hval0 hW _ _ hL _
  have hval : ∀ (j : Nat) t v, Tryd.f7.params[j]? = some t → args[j]? = some v → Value.okWide Tryd.prog W .any base t v := hval0
  have hW' := hW
  obtain ⟨p, q, hA0, hV, rfl, hfz, hnd⟩ := hW
  have hA : DataW.TrodAll enc Tryd.prog W 0 (fun _ => true) true Tryd.f7.params.toList args.toList ds p := hA0
  rw [Tryd.params7] at hA hval
  obtain ⟨v0, vs0, d0, ds0, p0, q0, hargs, rfl, rfl, h0, r0⟩ := trodAll_cons hA
  obtain ⟨v1, vs1, d1, ds1, p1, q1, rfl, rfl, rfl, h1, r1⟩ := trodAll_cons r0
  obtain ⟨rfl, rfl, rfl⟩ := trodAll_nil r1
  obtain rfl : args = #[v0, v1] := by cases args; simp_all
  obtain ⟨rfl, rfl⟩ := trodVars_none hV
  obtain ⟨a0, rfl, rfl, rfl, w0⟩ := open_string Tryd.underlying9 (hval 0 9 v0 rfl rfl) h0
  obtain ⟨n1, rfl, rfl, rfl, w1⟩ := open_int Tryd.underlying5 (hval 1 5 v1 rfl rfl) h1
  obtain ⟨m1, rfl, z1⟩ := nat_u8 w1
  have hT := of_laid hL
  clear hA0 hval0
  refine (walk (fun wr T => al_any wr T) a0 m1 w0 z1 W hT).mono fun e W' ⟨he, bel⟩ => ?_
  subst he
  exact ⟨_, rfl, _, _, _, [], _, [], hW', trodAll_mk1 (shut_bool Tryd.underlying4 _), (trodAll_cons_mk (shut_string Tryd.underlying9 w0) (trodAll_cons_mk (shut_int Tryd.underlying5 w1) trodAll_mk0)), rfl, bel.frame _, fun h => by cases h⟩

theorem bare : Rows.IsaOpSaid :=
  OpenClaim.holds_of_wide 7 Tryd.f7 rfl rfl rfl rfl rfl rfl rfl ⟨rfl, rfl, rfl, rfl, rfl⟩ rfl rfl rfl rfl rfl (by kernel_rfl) Tryd.func7 (by kernel_rfl)
    (of_decide_eq_true (by kernel_rfl)) (by unfold Func.isWrapper; first | (rw [if_pos (by decide +kernel)]; kernel_rfl) | (rw [if_neg (by decide +kernel)]; exact ⟨rfl, rfl⟩))
    (fun os started H enc _ => lifted os started H enc)

/-- the statement -/
theorem proved : Rows.IsaOpCardSaid :=
  Claim7.holds_tied_plain_at .later [] [.data, .data, .data, .data] true Rows.isaOpCard.stood.harness false
    bare (fun _ h => by cases h) (by kernel_rfl) (fun _ h => by cases h) isaOp_row_tie rfl ⟨rfl, rfl⟩ (by kernel_rfl) rfl
    (fun f fn hf hfn => by
      obtain rfl : f = 7 := Option.some.inj ((show Tryd.prog.funcNamed "hibernacle/hibernaclelaw10.IsaOp" = some 7 by kernel_rfl).symm.trans hf) |>.symm
      obtain rfl : fn = Tryd.f7 := (Option.some.inj (Tryd.func7.symm.trans hfn)).symm
      exact ⟨by kernel_rfl, fun j t ht => by
        rw [Tryd.params7] at ht
        have hm : t ∈ [9, 5] := by simpa using Array.mem_of_getElem? ht
        have hall : ([9, 5].all fun u => !Tryd.prog.wantsStandIn u) = true := by kernel_rfl
        exact (show Tryd.prog.wantsStandIn t = false by simpa using List.all_eq_true.1 hall t hm)⟩)
    (by kernel_rfl)
end Go.Proofs.YtmafeekhbcpomaaDoor.isaOp
