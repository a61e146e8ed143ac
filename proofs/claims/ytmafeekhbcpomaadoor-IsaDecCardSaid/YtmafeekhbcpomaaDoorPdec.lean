/-
  For every word: IsaDec answers true (its instruction, or that there is none, is the document's, and has just that word), and the arguments read behind the call as they read before; the package tables are laid by the program's own text.
-/
import Derived.Test.YtmafeekhbcpomaaDoorRows
import Derived.Test.YtmafeekhbcpomaaDoorCards
import Derived.Test.YtmafeekhbcpomaaDoorTie
import Derived.Test.YtmafeekhbcpomaaDoorLa
import Derived.Test.YtmafeekhbcpomaaDoorLk
import Derived.WalkKit
import Derived.ProofKit
import Derived.LaidMore
import Derived.OpenShut
import Derived.ShutString
import Derived.Stop.Joined
namespace Go.Proofs.YtmafeekhbcpomaaDoor.isaDec
open Go.ChangeShapes Go.WideShapes Go.ChangeAt Go.RowKit
open Go.ChangeMaps (open_string shut_string)
set_option linter.unusedVariables false
set_option linter.unusedSimpArgs false

theorem own : ownKnob Tryd.prog.godebug = none := by kernel_rfl
theorem door_met (os : Os) (args : Array Value) : laidMetH Tryd.prog lay4 ((World.doorLaid Tryd.prog 400 os).forCall (fun _ _ => 0) ⟨#[], args, []⟩).memory :=
  laidMetH_of_parts3 (fuel := 8) (laidMet_of_run' 8 (by kernel_rfl) (by kernel_rfl)) (by kernel_rfl) (by kernel_rfl)
theorem dec_Ok (w : Nat) (h : w < 4294967296) : (Is.dec w).1.Ok := by
  unfold Is.dec
  split
  · unfold Is.fields Is.sign
    refine ⟨?_, ?_, ?_, ?_, ?_, ?_⟩ <;> simp only
    · omega
    · omega
    · omega
    · split <;> omega
    · split
      · omega
      · split
        · omega
        · split <;> omega
    · split
      · omega
      · split
        · omega
        · split <;> omega
  · refine ⟨?_, ?_, ?_, ?_, ?_, ?_⟩ <;> simp [Is.zero]
theorem same_ne (x : Is.Ins) : (decide (x = x) != true) = false := by simp
theorem same_eq (x : Is.Ins) : (decide (x = x) != false) = true := by simp
set_option maxRecDepth 100000 in
theorem walk (ha : ∀ wr, Tab wr → Al wr) (hrd : ∀ (w : Nat) (W : World), w < 4294967296 → Calls Tryd.prog 14 #[.int .u32 w] W fun e W' => e = .returned (.tuple #[.agg (ic (Is.dec w).1), .bool (Is.dec w).2]) ∧ Below W.heap.size W W')
    (w : Nat) (hw : w < 4294967296) (W : World) (hT : Tab W) :
    Calls Tryd.prog 4 #[.int .u32 w] W fun e w' => e = .returned (.bool true) ∧ Below W.heap.size W w' := by
  have h1 := fun wr => dec_any w hw wr
  have h2 := fun wr => hrd w wr hw
  have h3 := fun wr => enc_any (Is.dec w).1 (dec_Ok w hw) wr
  have l1 : (w : Int) < 4294967296 := by omega
  have HN : Hid (((Is.dec w).2 = true → Is.enc (Is.dec w).1 = (w, 0)) ∧ ((Is.dec w).2 = false → (Is.dec w).1 = Is.zero)) := Lib.hid ⟨Is.dec_ok, Is.dec_no⟩
  clear hrd
  generalize Is.dec w = r1 at *
  obtain ⟨x, k1⟩ := r1
  simp only at h1 h2 h3
  have hc : (k1 = true ∧ Is.enc x = (w, 0)) ∨ (k1 = false ∧ x = Is.zero) := by
    cases k1
    · exact .inr ⟨rfl, HN.out.2 rfl⟩
    · exact .inl ⟨rfl, HN.out.1 rfl⟩
  clear HN
  rcases hc with ⟨rfl, he⟩ | ⟨rfl, rfl⟩
  · rw [he] at h3
    clear he
    obtain ⟨o, a, b, c, m⟩ := x
    simp only [ic_mk] at h1 h2
    go_enter Tryd.func4, Tryd.ntmps4
    go_wp2_with fail
    refine (ha _ hT).mono ?_
    rintro e w1 ⟨rfl, b1⟩
    clear ha
    go_wp2_with fail
    refine (h1 _).mono ?_
    rintro e w2 ⟨rfl, b2⟩
    replace b2 := b1.trans (b2.mono b1.size)
    clear b1 h1
    go_wp2_with fail
    refine (h2 _).mono ?_
    rintro e w3 ⟨rfl, b3⟩
    obtain ⟨d0, d1, d2, d3, d4⟩ := (at_new w2 ⟨o, a, b, c, m⟩ 23).below b3
    have z3 : w2.heap.size < w3.heap.size := by have := b3.size; simp at this; omega
    replace b3 := b2.trans ((grow _ _).trans (b3.mono (grow _ _).size) |>.mono b2.size)
    clear b2 h2
    go_wp2_with (refine cmpw true ⟨o, a, b, c, m⟩ ⟨o, a, b, c, m⟩ rfl rfl rfl rfl ?_; rw [same_ne])
    refine (h3 _).mono ?_
    rintro e w4 ⟨rfl, b4⟩
    replace b4 := b3.trans ((grow _ _).trans (b4.mono (grow _ _).size) |>.mono b3.size)
    clear b3 h3
    go_wp2_with fail
    go_ret
    exact ⟨rfl, b4⟩
  · have ez : Is.enc Is.zero = (0, 16) := by decide +kernel
    rw [ez] at h3
    clear ez
    simp only [icz] at h1 h2
    go_enter Tryd.func4, Tryd.ntmps4
    go_wp2_with fail
    refine (ha _ hT).mono ?_
    rintro e w1 ⟨rfl, b1⟩
    clear ha
    go_wp2_with fail
    refine (h1 _).mono ?_
    rintro e w2 ⟨rfl, b2⟩
    replace b2 := b1.trans (b2.mono b1.size)
    clear b1 h1
    go_wp2_with fail
    refine (h2 _).mono ?_
    rintro e w3 ⟨rfl, b3⟩
    obtain ⟨d0, d1, d2, d3, d4⟩ := (at_new w2 Is.zero 23).below b3
    have z3 : w2.heap.size < w3.heap.size := by have := b3.size; simp at this; omega
    replace b3 := b2.trans ((grow _ _).trans (b3.mono (grow _ _).size) |>.mono b2.size)
    clear b2 h2
    go_wp2_with (refine cmpw true Is.zero Is.zero rfl rfl rfl rfl ?_; rw [same_ne])
    have b3c := (at_new w2 Is.zero 23)
    refine (h3 _).mono ?_
    rintro e w4 ⟨rfl, b4⟩
    obtain ⟨g0, g1, g2, g3, g4⟩ := (At.below ⟨d0, d1, d2, d3, d4⟩ (grow w3 (Obj.cells (ic Is.zero) 23))).below b4
    simp only [Is.zero] at g0 g1 g2 g3 g4
    clear b3c d0 d1 d2 d3 d4
    replace b4 := b3.trans ((grow _ _).trans (b4.mono (grow _ _).size) |>.mono b3.size)
    clear b3 h3
    go_wp2_with (refine cmpw false Is.zero Is.zero rfl rfl rfl rfl ?_; rw [same_eq])
    go_ret
    exact ⟨rfl, b4⟩

set_option maxRecDepth 100000 in
theorem lifted (os : Os) (started : os.Started) (H : Type) (enc : TypeId × Value → H) :
    ReturnsInHanded {} Tryd.checked os 4 .any (fun w args => (Rows.isaDecSpec.pre enc Tryd.prog Tryd.f4 [] false w args ∧ laidMetH Tryd.prog lay4 w) ∧ sizedMet enc Tryd.prog Tryd.f4 (OpenSpec.ofChange Rows.isaDecSpec) false w args)
      (Rows.isaDecSpec.post enc Tryd.prog Tryd.f4 false true false false) := by
  refine returnsInHanded_of_change_and (C := Tryd.checked) (X := fun w _ => laidMetH Tryd.prog lay4 w) (fun _ _ _ hh h => h.of_heap hh) own started (by kernel_rfl) Tryd.func4
    (ChangeSpec.witness_shaped (enc := enc) (C := Tryd.checked) (os := os) (X := fun w _ => laidMetH Tryd.prog lay4 w) false (World.doorLaid Tryd.prog 400 os) #[.int .u32 0] 8 rfl (World.shaped_of_RefB (by kernel_rfl) (by kernel_rfl)) (by kernel_rfl) (by kernel_rfl) (by kernel_rfl) (door_met os _)) ?_
  intro W base args ds gs before hval0 hW _ _ hL _
  have hval : ∀ (j : Nat) t v, Tryd.f4.params[j]? = some t → args[j]? = some v → Value.okWide Tryd.prog W .any base t v := hval0
  have hW' := hW
  obtain ⟨p, q, hA0, hV, rfl, hfz, hnd⟩ := hW
  have hA : DataW.TrodAll enc Tryd.prog W 0 (fun _ => true) true Tryd.f4.params.toList args.toList ds p := hA0
  rw [Tryd.params4] at hA hval
  obtain ⟨v0, vs0, d0, ds0, p0, q0, hargs, rfl, rfl, h0, r0⟩ := trodAll_cons hA
  obtain ⟨rfl, rfl, rfl⟩ := trodAll_nil r0
  obtain rfl : args = #[v0] := by cases args; simp_all
  obtain ⟨rfl, rfl⟩ := trodVars_none hV
  obtain ⟨n0, rfl, rfl, rfl, w0⟩ := open_int Tryd.underlying25 (hval 0 25 v0 rfl rfl) h0
  obtain ⟨m0, rfl, z0⟩ := nat_u32 w0
  have hT := of_laid hL
  clear hA0 hval0
  refine (walk (fun wr T => al_any wr T) (fun n W h => rdec_any n h W) m0 z0 W hT).mono fun e W' ⟨he, bel⟩ => ?_
  subst he
  exact ⟨_, rfl, _, _, _, [], _, [], hW', trodAll_mk1 (shut_bool Tryd.underlying4 _), (trodAll_cons_mk (shut_int Tryd.underlying25 w0) trodAll_mk0), rfl, bel.frame _, fun h => by cases h⟩

theorem bare : Rows.IsaDecSaid :=
  OpenClaim.holds_of_wide 4 Tryd.f4 rfl rfl rfl rfl rfl rfl rfl ⟨rfl, rfl, rfl, rfl, rfl⟩ rfl rfl rfl rfl rfl (by kernel_rfl) Tryd.func4 (by kernel_rfl)
    (of_decide_eq_true (by kernel_rfl)) (by unfold Func.isWrapper; first | (rw [if_pos (by decide +kernel)]; kernel_rfl) | (rw [if_neg (by decide +kernel)]; exact ⟨rfl, rfl⟩))
    (fun os started H enc _ => lifted os started H enc)

/-- the statement -/
theorem proved : Rows.IsaDecCardSaid :=
  Claim7.holds_tied_plain_at .later [] [.data, .data, .data, .data] true Rows.isaDecCard.stood.harness false
    bare (fun _ h => by cases h) (by kernel_rfl) (fun _ h => by cases h) isaDec_row_tie rfl ⟨rfl, rfl⟩ (by kernel_rfl) rfl
    (fun f fn hf hfn => by
      obtain rfl : f = 4 := Option.some.inj ((show Tryd.prog.funcNamed "hibernacle/hibernaclelaw10.IsaDec" = some 4 by kernel_rfl).symm.trans hf) |>.symm
      obtain rfl : fn = Tryd.f4 := (Option.some.inj (Tryd.func4.symm.trans hfn)).symm
      exact ⟨by kernel_rfl, fun j t ht => by
        rw [Tryd.params4] at ht
        have hm : t ∈ [25] := by simpa using Array.mem_of_getElem? ht
        have hall : ([25].all fun u => !Tryd.prog.wantsStandIn u) = true := by kernel_rfl
        exact (show Tryd.prog.wantsStandIn t = false by simpa using List.all_eq_true.1 hall t hm)⟩)
    (by kernel_rfl)
end Go.Proofs.YtmafeekhbcpomaaDoor.isaDec
