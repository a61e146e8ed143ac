/-
  For every word and bit: IsaBits answers true (with one bit turned it is another instruction's, or none's), and the arguments read behind the call as they read before; the package tables are laid by the program's own text.
-/
import Derived.Test.YtmafeekhbcpomaaDoorRows
import Derived.Test.YtmafeekhbcpomaaDoorCards
import Derived.Test.YtmafeekhbcpomaaDoorTie
import Derived.Test.YtmafeekhbcpomaaDoorLa
import Derived.Test.YtmafeekhbcpomaaDoorLk
import Derived.WalkKit
import Derived.ProofKit
import Derived.LaidMore
import Derived.OpenShut
import Derived.ShutString
import Derived.Stop.Joined
namespace Go.Proofs.YtmafeekhbcpomaaDoor.isaBits
open Go.ChangeShapes Go.WideShapes Go.ChangeAt Go.RowKit
open Go.ChangeMaps (open_string shut_string)
set_option linter.unusedVariables false
set_option linter.unusedSimpArgs false

theorem own : ownKnob Tryd.prog.godebug = none := by kernel_rfl
theorem door_met (os : Os) (args : Array Value) : laidMetH Tryd.prog lay4 ((World.doorLaid Tryd.prog 400 os).forCall (fun _ _ => 0) ⟨#[], args, []⟩).memory :=
  laidMetH_of_parts3 (fuel := 8) (laidMet_of_run' 8 (by kernel_rfl) (by kernel_rfl)) (by kernel_rfl) (by kernel_rfl)
set_option maxRecDepth 100000 in
theorem walk (ha : ∀ wr, Tab wr → Al wr) (w b : Nat) (hw : w < 4294967296) (hb : b < 256) (W : World) (hT : Tab W) :
    Calls Tryd.prog 8 #[.int .u32 w, .int .u8 b] W fun e w' => e = .returned (.bool true) ∧ Below W.heap.size W w' := by
  have h1 := fun wr => dec_any w hw wr
  have l1 : (w : Int) < 4294967296 := by omega
  have l2 : (b : Int) < 256 := by omega
  have l3 : (0 : Int) ≤ (b : Int) % 32 := by omega
  have l4 : (b : Int) % 32 < 32 := by omega
  obtain ⟨w2, hw2⟩ : ∃ w2, w2 = w ^^^ 2 ^ (b % 32) := ⟨_, rfl⟩
  have p2 : 2 ^ (b % 32) < 4294967296 := Nat.pow_lt_pow_right (n := 32) (a := 2) (by omega) (by omega)
  have eX : bits .xor .u32 (w : Int) ((2 : Int) ^ (b % 32) % 4294967296) = (w2 : Int) := by
    have e : ((2 : Int) ^ (b % 32) % 4294967296) = ((2 ^ (b % 32) : Nat) : Int) := by
      rw [Int.natCast_pow]
      have : ((2 ^ (b % 32) : Nat) : Int) < 4294967296 := by omega
      rw [Int.natCast_pow] at this
      exact Int.emod_eq_of_lt (Int.pow_nonneg (by omega)) this
    rw [e, u32_xor_nat w _ hw p2, hw2]
  have l5 : w2 < 4294967296 := by rw [hw2]; exact Nat.xor_lt_two_pow (n := 32) hw p2
  have hne : w ≠ w2 := by
    intro h
    have h0 : w ^^^ w2 = 2 ^ (b % 32) := by rw [hw2, ← Nat.xor_assoc, Nat.xor_self, Nat.zero_xor]
    rw [← h, Nat.xor_self] at h0
    have := Nat.two_pow_pos (b % 32)
    omega
  clear hw2
  have h2 := fun wr => dec_any w2 l5 wr
  have HN : Hid ((Is.dec w).2 = true → (Is.dec w2).2 = true → (Is.dec w).1 ≠ (Is.dec w2).1) := Lib.hid (by
    intro t1 t2 e
    have q1 := Is.dec_ok t1
    have q2 := Is.dec_ok t2
    rw [e, q2] at q1
    exact hne (congrArg Prod.fst q1).symm)
  clear hne p2
  generalize Is.dec w = r1 at *
  generalize Is.dec w2 = r2 at *
  obtain ⟨⟨o, a, b', c, m⟩, k1⟩ := r1
  obtain ⟨⟨o', a', b'', c', m'⟩, k2⟩ := r2
  simp only [ic_mk] at h1 h2
  go_enter Tryd.func8, Tryd.ntmps8
  go_wp2_with fail
  refine (ha _ hT).mono ?_
  rintro e w1 ⟨rfl, b1⟩
  have hT1 := hT.below b1
  go_wp2_with fail
  refine (h1 _).mono ?_
  rintro e w2 ⟨rfl, b2⟩
  have hT2 := hT1.below b2
  replace b2 := b1.trans (b2.mono b1.size)
  clear b1
  go_wp2_with fail
  refine (h2 _).mono ?_
  rintro e w3 ⟨rfl, b3⟩
  obtain ⟨c0, c1, c2, c3, c4⟩ := (at_new w2 ⟨o, a, b', c, m⟩ 23).below b3
  have z3 : w2.heap.size < w3.heap.size := by have := b3.size; simp at this; omega
  have hT3 := (hT2.below (grow w2 (Obj.cells (ic ⟨o, a, b', c, m⟩) 23))).below b3
  replace b3 := b2.trans ((grow _ _).trans (b3.mono (grow _ _).size) |>.mono b2.size)
  clear b2
  have b4 := b3.trans ((grow w3 (Obj.cells (ic ⟨o', a', b'', c', m'⟩) 23)).mono b3.size)
  cases k1
  · go_wp2_with fail
    go_ret
    exact ⟨rfl, b4⟩
  · cases k2
    · go_wp2_with fail
      go_ret
      exact ⟨rfl, b4⟩
    · have hd : decide ((⟨o, a, b', c, m⟩ : Is.Ins) = ⟨o', a', b'', c', m'⟩) = false := decide_eq_false (HN.out rfl rfl)
      clear HN
      go_wp2_with (refine cmpw true ⟨o, a, b', c, m⟩ ⟨o', a', b'', c', m'⟩ rfl rfl rfl rfl ?_; rw [hd])
      go_ret
      exact ⟨rfl, b4⟩

set_option maxRecDepth 100000 in
theorem lifted (os : Os) (started : os.Started) (H : Type) (enc : TypeId × Value → H) :
    ReturnsInHanded {} Tryd.checked os 8 .any (fun w args => (Rows.isaBitsSpec.pre enc Tryd.prog Tryd.f8 [] false w args ∧ laidMetH Tryd.prog lay4 w) ∧ sizedMet enc Tryd.prog Tryd.f8 (OpenSpec.ofChange Rows.isaBitsSpec) false w args)
      (Rows.isaBitsSpec.post enc Tryd.prog Tryd.f8 false true false false) := by
  refine returnsInHanded_of_change_and (C := Tryd.checked) (X := fun w _ => laidMetH Tryd.prog lay4 w) (fun _ _ _ hh h => h.of_heap hh) own started (by kernel_rfl) Tryd.func8
    (ChangeSpec.witness_shaped (enc := enc) (C := Tryd.checked) (os := os) (X := fun w _ => laidMetH Tryd.prog lay4 w) false (World.doorLaid Tryd.prog 400 os) #[.int .u32 0, .int .u8 0] 8 rfl (World.shaped_of_RefB (by kernel_rfl) (by kernel_rfl)) (by kernel_rfl) (by kernel_rfl) (by kernel_rfl) (door_met os _)) ?_
  intro W base args ds gs before hval0 hW _ _ hL _
  have hval : ∀ (j : Nat) t v, Tryd.f8.params[j]? = some t → args[j]? = some v → Value.okWide Tryd.prog W .any base t v := hval0
  have hW' := hW
  obtain ⟨p, q, hA0, hV, rfl, hfz, hnd⟩ := hW
  have hA : DataW.TrodAll enc Tryd.prog W 0 (fun _ => true) true Tryd.f8.params.toList args.toList ds p := hA0
  rw [Tryd.params8] at hA hval
  obtain ⟨v0, vs0, d0, ds0, p0, q0, hargs, rfl, rfl, h0, r0⟩ := trodAll_cons hA
  obtain ⟨v1, vs1, d1, ds1, p1, q1, rfl, rfl, rfl, h1, r1⟩ := trodAll_cons r0
  obtain ⟨rfl, rfl, rfl⟩ := trodAll_nil r1
  obtain rfl : args = #[v0, v1] := by cases args; simp_all
  obtain ⟨rfl, rfl⟩ := trodVars_none hV
  obtain ⟨n0, rfl, rfl, rfl, w0⟩ := open_int Tryd.underlying25 (hval 0 25 v0 rfl rfl) h0
  obtain ⟨m0, rfl, z0⟩ := nat_u32 w0
  obtain ⟨n1, rfl, rfl, rfl, w1⟩ := open_int Tryd.underlying5 (hval 1 5 v1 rfl rfl) h1
  obtain ⟨m1, rfl, z1⟩ := nat_u8 w1
  have hT := of_laid hL
  clear hA0 hval0
  refine (walk (fun wr T => al_any wr T) m0 m1 z0 z1 W hT).mono fun e W' ⟨he, bel⟩ => ?_
  subst he
  exact ⟨_, rfl, _, _, _, [], _, [], hW', trodAll_mk1 (shut_bool Tryd.underlying4 _), (trodAll_cons_mk (shut_int Tryd.underlying25 w0) (trodAll_cons_mk (shut_int Tryd.underlying5 w1) trodAll_mk0)), rfl, bel.frame _, fun h => by cases h⟩

theorem bare : Rows.IsaBitsSaid :=
  OpenClaim.holds_of_wide 8 Tryd.f8 rfl rfl rfl rfl rfl rfl rfl ⟨rfl, rfl, rfl, rfl, rfl⟩ rfl rfl rfl rfl rfl (by kernel_rfl) Tryd.func8 (by kernel_rfl)
    (of_decide_eq_true (by kernel_rfl)) (by unfold Func.isWrapper; first | (rw [if_pos (by decide +kernel)]; kernel_rfl) | (rw [if_neg (by decide +kernel)]; exact ⟨rfl, rfl⟩))
    (fun os started H enc _ => lifted os started H enc)

/-- the statement -/
theorem proved : Rows.IsaBitsCardSaid :=
  Claim7.holds_tied_plain_at .later [] [.data, .data, .data, .data] true Rows.isaBitsCard.stood.harness false
    bare (fun _ h => by cases h) (by kernel_rfl) (fun _ h => by cases h) isaBits_row_tie rfl ⟨rfl, rfl⟩ (by kernel_rfl) rfl
    (fun f fn hf hfn => by
      obtain rfl : f = 8 := Option.some.inj ((show Tryd.prog.funcNamed "hibernacle/hibernaclelaw10.IsaBits" = some 8 by kernel_rfl).symm.trans hf) |>.symm
      obtain rfl : fn = Tryd.f8 := (Option.some.inj (Tryd.func8.symm.trans hfn)).symm
      exact ⟨by kernel_rfl, fun j t ht => by
        rw [Tryd.params8] at ht
        have hm : t ∈ [25, 5] := by simpa using Array.mem_of_getElem? ht
        have hall : ([25, 5].all fun u => !Tryd.prog.wantsStandIn u) = true := by kernel_rfl
        exact (show Tryd.prog.wantsStandIn t = false by simpa using List.all_eq_true.1 hall t hm)⟩)
    (by kernel_rfl)
end Go.Proofs.YtmafeekhbcpomaaDoor.isaBits
