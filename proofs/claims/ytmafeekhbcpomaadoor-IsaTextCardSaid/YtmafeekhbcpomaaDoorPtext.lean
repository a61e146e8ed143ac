/-
  For every instruction: IsaText answers true (its line is the document's, and begins with the name of its operation), and the arguments read behind the call as they read before; the package tables are laid by the program's own text.
-/
import Derived.Test.YtmafeekhbcpomaaDoorRows
import Derived.Test.YtmafeekhbcpomaaDoorCards
import Derived.Test.YtmafeekhbcpomaaDoorTie
import Derived.Test.YtmafeekhbcpomaaDoorLa
import Derived.Test.YtmafeekhbcpomaaDoorLk
import Derived.WalkKit
import Derived.ProofKit
import Derived.LaidMore
import Derived.OpenShut
import Derived.ShutString
import Derived.Stop.Joined
namespace Go.Proofs.YtmafeekhbcpomaaDoor.isaText
open Go.ChangeShapes Go.WideShapes Go.ChangeAt Go.RowKit
open Go.ChangeMaps (open_string shut_string)
set_option linter.unusedVariables false
set_option linter.unusedSimpArgs false

theorem own : ownKnob Tryd.prog.godebug = none := by kernel_rfl
theorem door_met (os : Os) (args : Array Value) : laidMetH Tryd.prog lay4 ((World.doorLaid Tryd.prog 400 os).forCall (fun _ _ => 0) ⟨#[], args, []⟩).memory :=
  laidMetH_of_parts3 (fuel := 8) (laidMet_of_run' 8 (by kernel_rfl) (by kernel_rfl)) (by kernel_rfl) (by kernel_rfl)
theorem opIs_is {s : ByteArray} {e : Ending} (h : opIs s e) : e = match opOf s with
  | some i => .returned (.tuple #[.int .u8 (i : Nat), .bool true])
  | none => .returned (.tuple #[.int .u8 0, .bool false]) := h
theorem st_eq (a b : List UInt8) : (st a = st b) ↔ a = b := ⟨fun h => st_inj h, fun h => by rw [h]⟩
def opL (l : List UInt8) : Nat → Option Nat
  | 0 => none
  | k + 1 => match opL l k with
    | some i => some i
    | none => if l = name (k + 1) then some (k + 1) else none
theorem opL_eq (l : List UInt8) : ∀ k, opTo (st l) k = opL l k
  | 0 => rfl
  | k + 1 => by
    rw [opTo, opL, opL_eq l k]
    cases opL l k with
    | some i => rfl
    | none =>
      simp only
      by_cases h : l = name (k + 1)
      · rw [if_pos h, if_pos (by rw [h])]
      · rw [if_neg h, if_neg (fun k => h (st_inj k))]
theorem opL_name : ∀ o, o < 32 → 1 ≤ o → opL (name o) 31 = some o := by decide +kernel
theorem op_name (o : Nat) (h : 1 ≤ o) (k : o < 32) : opOf (st (name o)) = some o := by
  unfold opOf; rw [opL_eq]; exact opL_name o k h
theorem op_empty : opOf (st []) = none := by unfold opOf; rw [opL_eq]; decide +kernel
theorem st_get (l : List UInt8) (k : Nat) (h : k < (st l).size) : (st l)[k] = l[k]'(by rw [st_size] at h; exact h) := rfl
theorem st_cut (a b : List UInt8) : (st (a ++ b)).extract 0 a.length = st a := by
  apply ByteArray.ext
  simp [st, ByteArray.data_extract]
theorem name_no' : ∀ a, a < 32 → (32 : UInt8) ∉ name a := by decide +kernel
theorem body_len (x : Is.Ins) (hx : x.Ok) (he : (Is.enc x).2 = 0) : (body x).length ≤ 200 := by
  have hk := (Is.enc_ok (x := x) (w := (Is.enc x).1) (by rw [← he])).2.2
  obtain ⟨h1, h2, h3, h4, h5, h6⟩ := hx
  have hm : -1000000 < x.imm ∧ x.imm < 1000000 := by
    rcases hk with ⟨_, h, _⟩ | ⟨_, h, _⟩
    · omega
    · rcases h with ⟨_, _, _⟩ | ⟨_, _, _⟩ <;> omega
  have a1 := rt_len x.a h2
  have a2 := rt_len x.b h3
  have a3 := rt_len x.c h4
  have a4 := itoa_len x.imm hm.1 hm.2
  unfold body
  (repeat' split) <;> simp [jn] <;> omega
set_option maxRecDepth 100000 in
set_option maxHeartbeats 1000000 in
theorem walk (ha : ∀ wr, Tab wr → Al wr) (ht : ∀ (x : Is.Ins) (w : World), x.Ok → Tab w → Calls Tryd.prog 15 #[.agg (ic x)] w fun e w' => e = .returned (.string (st (txt x))) ∧ Below w.heap.size w w')
    (hr : ∀ (x : Is.Ins) (w : World), x.Ok → Calls Tryd.prog 16 #[.agg (ic x)] w fun e w' => e = .returned (.string (st (txt x))) ∧ Below w.heap.size w w')
    (x : Is.Ins) (hx : x.Ok) (W : World) (hT : Tab W) :
    Calls Tryd.prog 6 #[.agg (ic x)] W fun e w' => e = .returned (.bool true) ∧ Below W.heap.size W w' := by
  have h1 := fun wr T => ht x wr hx T
  have h2 := fun wr => hr x wr hx
  obtain ⟨V, hV⟩ : ∃ V, V = W.alloc (Obj.cells (ic x) 23) := ⟨_, rfl⟩
  have st0 : At V W.heap.size x := by rw [hV]; exact at_new _ _ _
  have bV : Below W.heap.size W V := by rw [hV]; exact grow _ _
  have TV := hT.below bV
  have HV := Lib.hid hV
  clear ht hr hV hT
  by_cases he : (Is.enc x).2 = 0
  · have hop := (Is.enc_ok (x := x) (w := (Is.enc x).1) (by rw [← he])).1
    have ho1 := hop.1
    have ho2 := hop.2
    have hz : txt x = name x.op ++ 32 :: body x := by unfold txt; rw [if_neg (by rw [he]; simp)]
    rw [hz] at h1 h2
    have hn : (32 : UInt8) ∉ name x.op := name_no' x.op (by omega)
    have hc := st_cut (name x.op) (32 :: body x)
    have hl : (st (name x.op ++ 32 :: body x)).size = (name x.op).length + ((body x).length + 1) := by rw [st_size]; simp
    have hg : ∀ k (h : k < (name x.op).length) (h' : k < (st (name x.op ++ 32 :: body x)).size), (st (name x.op ++ 32 :: body x))[k] ≠ 32 := by
      intro k h h' e
      rw [st_get, List.getElem_append_left h] at e
      exact hn (e ▸ List.getElem_mem h)
    have hg2 : ∀ (h' : (name x.op).length < (st (name x.op ++ 32 :: body x)).size), (st (name x.op ++ 32 :: body x))[(name x.op).length] = 32 := by
      intro h'
      rw [st_get]
      simp
    have hln := name_len x.op (by omega)
    have hbl := body_len x (by assumption) he
    have h3 : ∀ wr, Tab wr → Calls Tryd.prog 17 #[.string (st (name x.op))] wr fun e w' => e = .returned (.tuple #[.int .u8 (x.op : Nat), .bool true]) ∧ wr = w' := fun wr hT => (op_any _ wr hT).mono fun e w' h => by
      have := opIs_is h.1
      rw [op_name x.op ho1 (by omega)] at this
      exact ⟨this, h.2⟩
    clear he hz hx hop hn
    generalize hS : st (name x.op ++ 32 :: body x) = S at *
    generalize hN : (name x.op).length = n at *
    clear hS hN
    rw [← hc] at h3
    clear hc
    have HG := Lib.hid hg
    have HG2 := Lib.hid hg2
    have HL : n < S.size := by omega
    have HM : S.size ≤ 1000 := by omega
    clear hg hg2 hl
    have en : S.toList.isEmpty = false := by
      rw [Go.ByteArray.toList_eq]
      have : 0 < S.size := by omega
      simp only [ByteArray.size] at this
      cases h : S.data.toList with
      | nil => rw [← Array.length_toList, h] at this; simp at this
      | cons a t => rfl
    obtain ⟨o, a, b, c, m⟩ := x
    simp only at h3 ho1 ho2 hln
    go_enter Tryd.func6, Tryd.ntmps6
    go_wp2_with fail
    change Calls _ _ _ (W.alloc (Obj.cells (ic ⟨o, a, b, c, m⟩) 23)) _
    rw [← HV.out]
    clear HV
    refine (ha _ TV).mono ?_
    rintro e w1 ⟨rfl, b1⟩
    replace st0 := st0.below b1
    replace TV := TV.below b1
    replace bV := bV.trans (b1.mono bV.size)
    clear b1 ha
    obtain ⟨c0, c1, c2, c3, c4⟩ := id st0
    go_wp2_with fail
    refine (h1 _ TV).mono ?_
    rintro e w2 ⟨rfl, b1⟩
    replace st0 := st0.below b1
    replace TV := TV.below b1
    replace bV := bV.trans (b1.mono bV.size)
    clear b1 c0 c1 c2 c3 c4 h1
    obtain ⟨c0, c1, c2, c3, c4⟩ := id st0
    go_wp2_with fail
    refine (h2 _).mono ?_
    rintro e w3 ⟨rfl, b1⟩
    replace st0 := st0.below b1
    replace TV := TV.below b1
    replace bV := bV.trans (b1.mono bV.size)
    clear b1 c0 c1 c2 c3 c4 h2
    obtain ⟨c0, c1, c2, c3, c4⟩ := id st0
    go_wp2_with fail
    go_loop [4] (fun i => ∃ k : Nat, k ≤ n ∧ i = .int .i64 k) (fun i => n - (intOf i).toNat)
    case atStart => exact ⟨0, by omega, rfl⟩
    case round =>
      obtain ⟨k, hk, rfl⟩ := hrel
      have hks : k < S.size := by omega
      by_cases hkn : k < n
      · have g := HG.out k hkn hks
        have g1 : ((S[k].toNat : Int) == 32) = false := by
          rw [beq_eq_false_iff_ne]
          intro h
          have h9 : S[k].toNat = 32 := by omega
          exact g (UInt8.toNat_inj.1 h9)
        have g2 : ((S[k].toNat : Int) != 32) = true := by rw [bne, g1]; rfl
        clear g
        go_wp2_with fail
        go_round
        case rel => exact ⟨k + 1, by omega, by go_num⟩
        case measure => simp [intOf]; omega
      · obtain rfl : k = n := by omega
        have g := HG2.out hks
        have g1 : ((S[k].toNat : Int) == 32) = true := by rw [g]; rfl
        have g2 : ((S[k].toNat : Int) != 32) = false := by rw [bne, g1]; rfl
        clear g
        go_wp2_with fail
        refine (h3 _ TV).mono ?_
        rintro e w4 ⟨rfl, rfl⟩
        go_wp2_with fail
        go_ret
        exact ⟨rfl, bV⟩
  · have hz : txt x = [] := by unfold txt; rw [if_pos he]
    rw [hz] at h1 h2
    have hs0 : (st []).toList = [] := by rw [Go.ByteArray.toList_eq]; rfl
    have hs1 : (⟨#[]⟩ : ByteArray).toList = [] := by rw [Go.ByteArray.toList_eq]
    have hs2 : (st []).size = 0 := st_size []
    have h3 : ∀ wr, Tab wr → Calls Tryd.prog 17 #[.string ByteArray.empty] wr fun e w' => e = .returned (.tuple #[.int .u8 0, .bool false]) ∧ wr = w' := fun wr hT => (op_any (st []) wr hT).mono fun e w' h => by
      have := opIs_is h.1
      rw [op_empty] at this
      exact ⟨this, h.2⟩
    clear he hz hx
    obtain ⟨o, a, b, c, m⟩ := x
    go_enter Tryd.func6, Tryd.ntmps6
    go_wp2_with fail
    change Calls _ _ _ (W.alloc (Obj.cells (ic ⟨o, a, b, c, m⟩) 23)) _
    rw [← HV.out]
    clear HV
    refine (ha _ TV).mono ?_
    rintro e w1 ⟨rfl, b1⟩
    replace st0 := st0.below b1
    replace TV := TV.below b1
    replace bV := bV.trans (b1.mono bV.size)
    clear b1 ha
    obtain ⟨c0, c1, c2, c3, c4⟩ := id st0
    go_wp2_with fail
    refine (h1 _ TV).mono ?_
    rintro e w2 ⟨rfl, b1⟩
    replace st0 := st0.below b1
    replace TV := TV.below b1
    replace bV := bV.trans (b1.mono bV.size)
    clear b1 c0 c1 c2 c3 c4 h1
    obtain ⟨c0, c1, c2, c3, c4⟩ := id st0
    go_wp2_with fail
    refine (h2 _).mono ?_
    rintro e w3 ⟨rfl, b1⟩
    replace st0 := st0.below b1
    replace TV := TV.below b1
    replace bV := bV.trans (b1.mono bV.size)
    clear b1 c0 c1 c2 c3 c4 h2
    obtain ⟨c0, c1, c2, c3, c4⟩ := id st0
    go_wp2_with fail
    go_loop [4] (fun i => i = .int .i64 0) (fun i => 0)
    case atStart => rfl
    case round =>
      obtain rfl := hrel
      go_wp2_with fail
      refine (h3 _ TV).mono ?_
      rintro e w4 ⟨rfl, rfl⟩
      go_wp2_with fail
      go_ret
      exact ⟨rfl, bV⟩

set_option maxRecDepth 100000 in
theorem lifted (os : Os) (started : os.Started) (H : Type) (enc : TypeId × Value → H) :
    ReturnsInHanded {} Tryd.checked os 6 .any (fun w args => (Rows.isaTextSpec.pre enc Tryd.prog Tryd.f6 [] false w args ∧ laidMetH Tryd.prog lay4 w) ∧ sizedMet enc Tryd.prog Tryd.f6 (OpenSpec.ofChange Rows.isaTextSpec) false w args)
      (Rows.isaTextSpec.post enc Tryd.prog Tryd.f6 false true false false) := by
  refine returnsInHanded_of_change_and (C := Tryd.checked) (X := fun w _ => laidMetH Tryd.prog lay4 w) (fun _ _ _ hh h => h.of_heap hh) own started (by kernel_rfl) Tryd.func6
    (ChangeSpec.witness_shaped (enc := enc) (C := Tryd.checked) (os := os) (X := fun w _ => laidMetH Tryd.prog lay4 w) false (World.doorLaid Tryd.prog 400 os) #[.agg #[.int .u8 0, .int .u8 0, .int .u8 0, .int .u8 0, .int .i32 0]] 8 rfl (World.shaped_of_RefB (by kernel_rfl) (by kernel_rfl)) (by kernel_rfl) (by kernel_rfl) (by kernel_rfl) (door_met os _)) ?_
  intro W base args ds gs before hval0 hW _ _ hL _
  have hval : ∀ (j : Nat) t v, Tryd.f6.params[j]? = some t → args[j]? = some v → Value.okWide Tryd.prog W .any base t v := hval0
  have hW' := hW
  obtain ⟨p, q, hA0, hV, rfl, hfz, hnd⟩ := hW
  have hA : DataW.TrodAll enc Tryd.prog W 0 (fun _ => true) true Tryd.f6.params.toList args.toList ds p := hA0
  rw [Tryd.params6] at hA hval
  obtain ⟨v0, vs0, d0, ds0, p0, q0, hargs, rfl, rfl, h0, r0⟩ := trodAll_cons hA
  obtain ⟨rfl, rfl, rfl⟩ := trodAll_nil r0
  obtain rfl : args = #[v0] := by cases args; simp_all
  obtain ⟨rfl, rfl⟩ := trodVars_none hV
  obtain ⟨K0, rfl, b0⟩ := okIns (hval 0 23 v0 rfl rfl)
  have k0 := h0
  have lt0 : ∀ x ∈ p0, x.block < W.heap.size := by obtain ⟨m, hm⟩ := k0; exact DataW.trod_lt m _ _ _ hm
  have hT := of_laid hL
  clear hA0 hval0
  refine (walk (fun wr T => al_any wr T) (fun x w hx T => text_any x hx w T) (fun x w hx => rtext_any x hx w) K0 b0 W hT).mono fun e W' ⟨he, bel⟩ => ?_
  subst he
  exact ⟨_, rfl, _, _, _, [], _, [], hW', trodAll_mk1 (shut_bool Tryd.underlying4 _), (trodAll_cons_mk (Below.trod laidOut (by kernel_rfl) (of_decide_eq_true (by kernel_rfl)) k0 bel lt0) trodAll_mk0), rfl, bel.frame _, fun h => by cases h⟩

theorem bare : Rows.IsaTextSaid :=
  OpenClaim.holds_of_wide 6 Tryd.f6 rfl rfl rfl rfl rfl rfl rfl ⟨rfl, rfl, rfl, rfl, rfl⟩ rfl rfl rfl rfl rfl (by kernel_rfl) Tryd.func6 (by kernel_rfl)
    (of_decide_eq_true (by kernel_rfl)) (by unfold Func.isWrapper; first | (rw [if_pos (by decide +kernel)]; kernel_rfl) | (rw [if_neg (by decide +kernel)]; exact ⟨rfl, rfl⟩))
    (fun os started H enc _ => lifted os started H enc)

/-- the statement -/
theorem proved : Rows.IsaTextCardSaid :=
  Claim7.holds_tied_plain_at .later [] [.data, .data, .data, .data] true Rows.isaTextCard.stood.harness false
    bare (fun _ h => by cases h) (by kernel_rfl) (fun _ h => by cases h) isaText_row_tie rfl ⟨rfl, rfl⟩ (by kernel_rfl) rfl
    (fun f fn hf hfn => by
      obtain rfl : f = 6 := Option.some.inj ((show Tryd.prog.funcNamed "hibernacle/hibernaclelaw10.IsaText" = some 6 by kernel_rfl).symm.trans hf) |>.symm
      obtain rfl : fn = Tryd.f6 := (Option.some.inj (Tryd.func6.symm.trans hfn)).symm
      exact ⟨by kernel_rfl, fun j t ht => by
        rw [Tryd.params6] at ht
        have hm : t ∈ [23] := by simpa using Array.mem_of_getElem? ht
        have hall : ([23].all fun u => !Tryd.prog.wantsStandIn u) = true := by kernel_rfl
        exact (show Tryd.prog.wantsStandIn t = false by simpa using List.all_eq_true.1 hall t hm)⟩)
    (by kernel_rfl)
end Go.Proofs.YtmafeekhbcpomaaDoor.isaText
