/-
  For every list of bytes and every two bytes the law FieldFree of package field returns true and leaves its arguments as they were; there is no condition.
-/
import Derived.Test.YtdjejohppbkbcaaRows
import Derived.WalkKit
import Derived.ProofKit
import Derived.OpenShut
import Derived.ShutString
import Derived.ChangeOld
import Derived.Below
import Derived.Test.YtdjejohppbkbcaaRc
namespace Go.Proofs.Ytdjejohppbkbcaa.fieldFree
open Go.ChangeShapes Go.WideShapes Go.ChangeAt Go.RowKit
open Go.ChangeMaps (open_string shut_string)
set_option linter.unusedVariables false

theorem own : ownKnob Try.prog.godebug = none := by kernel_rfl
theorem laidOut : laidOutB Try.prog = true := by kernel_rfl

open Go.Proofs.Ytdjejohppbkbcaa in
theorem own1 (w : World) (v : Value) (t : TypeId) : (w.alloc (.cells #[v] t)).cell? ⟨w.heap.size, 0, none⟩ = some v := (Own.new w t #[v]).cell 0
open Go.Proofs.Ytdjejohppbkbcaa in
theorem row_nil {k : IntKind} {w : World} {a : Option Addr} {len cap : Nat} {zs : List Int} (h : IsRow k w a len cap zs) : a = none → cap = 0 := by
  rintro rfl
  rcases h with ⟨_, _, h, _⟩ | ⟨x, h, _⟩
  · exact h
  · cases h
/-- the points of the law, behind the first -/
def fpts (X : Nat) (k : Nat) : List Nat := (List.range k).map fun i => (X + 1 + i) % 256
theorem fpts_succ (X k : Nat) : fpts X (k + 1) = fpts X k ++ [(X + 1 + k) % 256] := by simp [fpts, List.range_succ]
open Go.Proofs.Ytdjejohppbkbcaa in
theorem nth_fpts (X k i : Nat) (h : i < k) : Gf.nth (fpts X k) i = (X + 1 + i) % 256 := by rw [Gf.nth_eq]; simp [fpts, h]
open Go.Proofs.Ytdjejohppbkbcaa in
theorem nth_all (X k i : Nat) (h : i < k + 1) (hX : X < 256) : Gf.nth ([X] ++ fpts X k) i = (X + i) % 256 := by
  rcases i with _ | i
  · rw [Gf.nth_eq]; simp; omega
  · have e : Gf.nth ([X] ++ fpts X k) (i + 1) = Gf.nth (fpts X k) i := by rw [Gf.nth_eq, Gf.nth_eq]; simp
    rw [e, nth_fpts X k i (by omega)]
    congr 1
    omega
open Go.Proofs.Ytdjejohppbkbcaa in
theorem dup_all (X k : Nat) (hX : X < 256) (hk : k ≤ 12) : Gf.dup ([X] ++ fpts X k) = false := Gf.dup_not (fun i j hi hj hij => by
  have hl : ([X] ++ fpts X k).length = k + 1 := by simp [fpts]
  rw [nth_all X k i (by omega) hX, nth_all X k j (by omega) hX]
  omega)
open Go.Proofs.Ytdjejohppbkbcaa in
set_option maxHeartbeats 2000000 in
theorem walk (a0 : Option Addr) (len0 cap0 : Nat) (z0 : List Int) (a1 : Int) (a2 : Int) (w : World) (w0 : IsRow .u8 w a0 len0 cap0 z0) (w1 : (Lit.int .u8 a1).wf = true) (w2 : (Lit.int .u8 a2).wf = true) :
    Calls Try.prog 12 #[.slice a0 len0 cap0, .int .u8 a1, .int .u8 a2] w fun e w' => e = .returned (.bool true) ∧ Below w.heap.size w w' := by
  have b1 := bounds_u8 w1
  have b2 := bounds_u8 w2
  obtain ⟨X, rfl⟩ := Int.eq_ofNat_of_zero_le b1.1
  obtain ⟨Y, rfl⟩ := Int.eq_ofNat_of_zero_le b2.1
  have hX : X < 256 := by omega
  have hYb : Y < 256 := by omega
  obtain ⟨l, hl, m0⟩ := bs_of_row w0
  have HN := Lib.hid (row_nil w0)
  clear w0 w1 w2 b1 b2
  by_cases h1 : 12 < len0
  · go_enter Try.func12, Try.ntmps12
    go_wp2_with fail
    refine (alive_any _).mono ?_
    rintro e w1 ⟨rfl, hb⟩
    go_wp2_with fail
    go_ret
    exact ⟨rfl, hb⟩
  · have h12 : len0 ≤ 12 := by omega
    go_enter Try.func12, Try.ntmps12
    go_wp2_with fail
    refine (alive_any _).mono ?_
    rintro e w1 ⟨rfl, hb⟩
    have l1 := hl.below hb
    go_wp2_with fail
    go_loopw [7, 27] (fun p i wr => ∃ k : Nat, k ≤ len0 ∧ i = .int .i64 k ∧ ∃ A c, p = .slice A k c ∧ RB wr w1.heap.size A k c (fpts X k) ∧ (A = none → c = 0) ∧ Below w1.heap.size w1 wr) (fun _ i _ => len0 - (intOf i).toNat)
    case atStart => exact ⟨0, Nat.zero_le _, rfl, none, 0, rfl, RB.nil _ _, (fun _ => rfl), Below.refl _ _⟩
    case round =>
      obtain ⟨k, hk, rfl, A, c, rfl, hp, hnc, hw⟩ := hrel
      have HNC := Lib.hid hnc
      clear hnc
      by_cases hlt : k < len0
      · have hk12 : (k : Int) < 12 := by omega
        have hk0 : (0 : Int) ≤ (k : Int) := by omega
        have hZ : (X + 1 + k) % 256 < 256 := Nat.mod_lt _ (by omega)
        have ps := Lib.hid (fpts_succ X k)
        have eZ : ((X : Int) + 1 + (k : Int)) % 256 = (((X + 1 + k) % 256 : Nat) : Int) := by omega
        have HZ := Lib.hid eZ
        clear eZ
        go_wp2_with (at_builtin; go_must (refine app_byte rfl (.tmp 35) (.tmp 37) rfl w1.heap.size A k c (fpts X k) rfl (hp.alloc _) wr.heap.size ((X + 1 + k) % 256) 1 rfl ?c1 hZ (by omega) ?c3 (wr.heap.size + 1) ?c4 ?_); go_must (case c1 => (rw [HZ.out]; exact own1 _ _ _)); go_must (case c3 => (have := hw.size; simp; omega)); go_must (case c4 => simp); intro g cx w2 hp2 hg2 hor2 hbw2)
        go_roundw
        case rel => exact ⟨k + 1, by omega, by go_num, _, _, rfl, by rw [ps.out]; exact hp2, (fun h => by cases h), (hw.alloc hw.size _).trans hbw2⟩
        case measure => simp [intOf]; omega
      · obtain rfl : k = len0 := by omega
        have hs1 := hw.size
        have hl0 := l1.below hw
        have r1 : RB (wr.alloc (.cells #[bv X] 5)) w1.heap.size (some ⟨wr.heap.size, 0, none⟩) 1 1 [X] := RB.lit (Own.new _ _ _) hw.size hX
        go_wp2_with (first | (at_builtin; refine append_row rfl (.tmp 41) (.tmp 42) rfl w1.heap.size (some ⟨wr.heap.size, 0, none⟩) 1 1 [X] rfl r1 A k c (fpts X k) rfl (hp.alloc _).bs HNC.out (by omega) (by omega) ?c3 (wr.heap.size + 1) ?c4 ?_; go_must (case c3 => (simp; omega)); go_must (case c4 => simp); intro g cA w2 hA hg2 hor2 hbw2; have tok1 : Below w1.heap.size w1 w2 := (hw.alloc hw.size _).trans hbw2) | (at_builtin; have r2 : RB (w2.alloc (.cells #[bv Y] 5)) w1.heap.size (some ⟨w2.heap.size, 0, none⟩) 1 1 [Y] := RB.lit (Own.new _ _ _) tok1.size hYb; go_must (refine append_row rfl (.tmp 45) (.tmp 46) rfl w1.heap.size (some ⟨w2.heap.size, 0, none⟩) 1 1 [Y] rfl r2 a0 k cap0 l rfl ((l1.below tok1).below ((Below.refl _ _).alloc (Nat.le_refl _) _)) HN.out (by omega) (by omega) ?d3 (w2.heap.size + 1) ?d4 ?_); go_must (case d3 => (have := tok1.size; simp; omega)); go_must (case d4 => simp); intro g' cV w3 hV hg3 hor3 hbw3))
        have z2 := hbw2.size
        rw [World.size_alloc] at z2
        have z3 := hbw3.size
        rw [World.size_alloc] at z3
        have gA : g < w2.heap.size := by
          rcases hA.form with ⟨h, _⟩ | ⟨g0, h, _, h'⟩
          · cases h
          · simp at h; omega
        have hA3 : RB w3 w1.heap.size (some ⟨g, 0, none⟩) (1 + k) cA ([X] ++ fpts X k) := (hA.alloc _).kept hg3 (fun g0 hg0 => by
          simp at hg0
          subst hg0
          simp [Value.ownBlock]
          omega)
        have gV : g ≠ g' ∧ g < w3.heap.size ∧ g' < w3.heap.size := by
          rcases hV.form with ⟨h, _⟩ | ⟨g0, h, _, h'⟩
          · cases h
          · simp at h
            rcases hor3 with h3 | h3
            · simp at h3; omega
            · omega
        have hw3 : Below w1.heap.size w1 w3 := (tok1.alloc tok1.size _).trans hbw3
        have ln1 : ([X] ++ fpts X k).length = 1 + k := hA3.1
        have ln2 : ([Y] ++ l).length = 1 + k := hV.1
        have bA := hA3.2.1
        have bV := hV.2.1
        have hlk := hl.1
        have hdup := dup_all X k hX h12
        have hnth : ∀ j, j < 1 + k → ∀ e, AtIs ([X] ++ fpts X k) ([Y] ++ l) (Gf.nth ([X] ++ fpts X k) j) e → e = .returned (.tuple #[.int .u8 (Gf.nth ([Y] ++ l) j : Nat), .bool true]) := by
          intro j hj e he
          unfold AtIs at he
          rw [if_pos ⟨ln1.trans ln2.symm, hdup⟩, Gf.atk_points bA bV hdup (by omega)] at he
          exact he
        have HNTH := Lib.hid hnth
        have hdup2 : Gf.dup (([X] ++ fpts X k) ++ [X]) = true := Gf.dup_of (i := 0) (j := 1 + k) (by simp) (by simp [fpts]; omega) (by omega) (by
          rw [Gf.nth_eq, Gf.nth_eq]
          simp [fpts, Nat.add_comm 1 k])
        have HD2 := Lib.hid hdup2
        have LN1 := Lib.hid ln1
        have LN2 := Lib.hid ln2
        have HLK := Lib.hid hlk
        generalize hAL : [X] ++ fpts X k = al at *
        generalize hVL : [Y] ++ l = vl at *
        clear hnth hdup2 hdup ln1 ln2 hlk hAL hVL hg2 hg3 hor2 hor3 hbw2 hbw3 tok1 hA r1 hp z2 z3 gA
        go_wp2_with fail
        go_loopw [50] (fun i wq => ∃ j : Nat, j ≤ 1 + k ∧ i = .int .i64 j ∧ Below w3.heap.size w3 wq) (fun i _ => (1 + k) - (intOf i).toNat)
        case atStart => exact ⟨0, Nat.zero_le _, rfl, Below.refl _ _⟩
        case round =>
          obtain ⟨j, hj, rfl, hq⟩ := hrel
          have kA := (hA3.below hq)
          have kV := (hV.below hq)
          by_cases hjl : j < 1 + k
          · have nb := bA.at_ j
            have nv := bV.at_ j
            have c1 : wr.cell? ⟨g, j, none⟩ = some (.int .u8 (Gf.nth al j : Nat)) := by
              obtain ⟨b, off, e1, hc⟩ := kA.bs.2.2 (by omega)
              injection e1 with e1
              injection e1 with eb eo
              subst eb
              subst eo
              have := hc j hjl
              rwa [Nat.zero_add] at this
            go_wp2_with fail
            refine (at_any _ _ _ _ _ _ al vl (Gf.nth al j) _ nb (by omega) (by omega) kA.bs kV.bs).mono ?_
            rintro e w4 ⟨he, hb4⟩
            rw [HNTH.out j hjl e he]
            clear he
            have kV4 := kV.below hb4
            have c2 : w4.cell? ⟨g', j, none⟩ = some (.int .u8 (Gf.nth vl j : Nat)) := by
              obtain ⟨b, off, e1, hc⟩ := kV4.bs.2.2 (by omega)
              injection e1 with e1
              injection e1 with eb eo
              subst eb
              subst eo
              have := hc j hjl
              rwa [Nat.zero_add] at this
            go_wp2_with fail
            go_roundw
            case rel => exact ⟨j + 1, by omega, by go_num, hq.trans (hb4.mono hq.size)⟩
            case measure => simp [intOf]; omega
          · obtain rfl : j = 1 + k := by omega
            have q1 : RB (wr.alloc (.cells #[bv X] 5)) w1.heap.size (some ⟨g, 0, none⟩) (1 + k) cA al := kA.alloc _
            have s3 := hw3.size
            have s4 := hq.size
            go_wp2_with (first | (at_builtin; refine app_byte rfl (.tmp 74) (.tmp 76) rfl w1.heap.size (some ⟨g, 0, none⟩) (1 + k) cA al rfl q1 wr.heap.size X 1 rfl ?c1 hX (by omega) ?c3 (wr.heap.size + 1) ?c4 ?_; go_must (case c1 => exact own1 _ _ _); go_must (case c3 => (simp; omega)); go_must (case c4 => simp); intro g5 c5 w5 h5 hg5 hor5 hb5) | (at_builtin; have hV5 : RB w5 w1.heap.size (some ⟨g', 0, none⟩) (1 + k) cV vl := (kV.alloc _).kept hg5 (fun g0 hg0 => (by simp at hg0; subst hg0; simp [Value.ownBlock]; omega)); have z5 := hb5.size; go_must (refine app_byte rfl (.tmp 78) (.tmp 80) rfl w1.heap.size (some ⟨g', 0, none⟩) (1 + k) cV vl rfl (hV5.alloc _) w5.heap.size Y 1 rfl ?d1 hYb (by omega) ?d3 (w5.heap.size + 1) ?d4 ?_); go_must (case d1 => exact own1 _ _ _); go_must (case d3 => (simp at z5 ⊢; omega)); go_must (case d4 => simp); intro g6 c6 w6 h6 hg6 hor6 hb6))
            have z5 := hb5.size
            rw [World.size_alloc] at z5
            have z6 := hb6.size
            rw [World.size_alloc] at z6
            have k5 : RB w6 w1.heap.size (some ⟨g5, 0, none⟩) (1 + k + 1) c5 (al ++ [X]) := (h5.alloc _).kept hg6 (fun g0 hg0 => by
              simp at hg0
              subst hg0
              have : g5 ≠ g' := by
                rcases hor5 with h | h
                · simp at h; omega
                · omega
              simpa [Value.ownBlock] using this)
            have hw6 : Below w1.heap.size w1 w6 := ((hw3.trans (hq.mono hw3.size)).alloc (by omega) _).trans (hb5.trans (((Below.refl _ _).alloc (by omega) _).trans hb6))
            clear hg5 hg6 hor5 hb5 hb6
            go_wp2_with fail
            refine (at_any _ _ _ _ _ _ (al ++ [X]) (vl ++ [Y]) 0 _ (by omega) (by omega) (by omega) k5.bs h6.bs).mono ?_
            rintro e w7 ⟨he, hb7⟩
            have e7 : e = .returned (.tuple #[.int .u8 0, .bool false]) := by
              unfold AtIs at he
              rw [if_neg (by rw [HD2.out]; simp)] at he
              exact he
            rw [e7]
            clear he e7
            go_wp2_with fail
            refine (at_len _ _ _ _ _ _ _ _ (by omega)).mono ?_
            rintro e w8 ⟨rfl, rfl⟩
            go_wp2_with fail
            go_ret
            exact ⟨rfl, (hb.trans (hw6.mono hb.size)).trans (hb7.mono (Nat.le_trans hb.size hw6.size))⟩

set_option maxRecDepth 100000 in
theorem lifted (os : Os) (started : os.Started) (H : Type) (enc : TypeId × Value → H) :
    ReturnsInHanded {} Try.checked os 12 .any (Rows.fieldFreeSpec.pre6 enc Try.prog Try.f12 Rows.fieldFreeRow.domain false) (Rows.fieldFreeSpec.post enc Try.prog Try.f12 false true false false) := by
  refine returnsInHanded_of_change (C := Try.checked) own started (by kernel_rfl) Try.func12
    (ChangeSpec.witness6 (enc := enc) (C := Try.checked) false ⟨#[], #[.slice none 0 0, .int .u8 0, .int .u8 0], []⟩ 8 (by kernel_rfl) (by kernel_rfl) (by kernel_rfl) (by kernel_rfl)) ?_
  intro W base args ds gs before hval0 hW hcnd _
  have hval : ∀ (j : Nat) t v, Try.f12.params[j]? = some t → args[j]? = some v → Value.okWide Try.prog W .any base t v := hval0
  have hW' := hW
  obtain ⟨p, q, hA0, hV, rfl, hfz, hnd⟩ := hW
  have hA : DataW.TrodAll enc Try.prog W 0 (fun _ => true) true Try.f12.params.toList args.toList ds p := hA0
  rw [Try.params12] at hA hval
  obtain ⟨v0, vs0, d0, ds0, p0, q0, hargs, rfl, rfl, h0, r0⟩ := trodAll_cons hA
  obtain ⟨v1, vs1, d1, ds1, p1, q1, rfl, rfl, rfl, h1, r1⟩ := trodAll_cons r0
  obtain ⟨v2, vs2, d2, ds2, p2, q2, rfl, rfl, rfl, h2, r2⟩ := trodAll_cons r1
  obtain ⟨rfl, rfl, rfl⟩ := trodAll_nil r2
  obtain rfl : args = #[v0, v1, v2] := by cases args; simp_all
  obtain ⟨rfl, rfl⟩ := trodVars_none hV
  obtain ⟨a0, len0, cap0, rfl⟩ := okWide_slice Try.underlying44 (hval 0 44 v0 rfl rfl)
  have k0 := h0
  have lt0 : ∀ x ∈ p0, x.block < W.heap.size := by obtain ⟨m, hm⟩ := k0; exact DataW.trod_lt m _ _ _ hm
  obtain ⟨z0, w0⟩ : ∃ zs, IsRow .u8 W a0 len0 cap0 zs := by
    obtain ⟨fuel, hf⟩ := h0
    rcases open_ints Try.underlying44 Try.underlying5 (by kernel_rfl) hf with ⟨hcs, _⟩ | ⟨x, l, c, zs, hcs, _, hl, hm, hz, _, hcell, hwz⟩
    · simp [Value.cells] at hcs
      obtain ⟨rfl, rfl, rfl⟩ := hcs
      exact ⟨[], .inl ⟨rfl, rfl, rfl, rfl⟩⟩
    · simp [Value.cells] at hcs
      obtain ⟨rfl, rfl, rfl⟩ := hcs
      exact ⟨zs, .inr ⟨_, rfl, hl, hm, by simpa using hz, hcell, hwz⟩⟩
  obtain ⟨a1, rfl, rfl, rfl, w1⟩ := open_int Try.underlying5 (hval 1 5 v1 rfl rfl) h1
  obtain ⟨a2, rfl, rfl, rfl, w2⟩ := open_int Try.underlying5 (hval 2 5 v2 rfl rfl) h2
  clear hA0 hval0
  refine (walk a0 len0 cap0 z0 a1 a2 W w0 w1 w2).mono fun e W' ⟨he, bel⟩ => ?_
  subst he
  exact ⟨_, rfl, _, _, _, [], _, [], hW', trodAll_mk1 (shut_bool Try.underlying4 _), (trodAll_cons_mk (Below.trod laidOut (by kernel_rfl) (of_decide_eq_true (by kernel_rfl)) k0 bel lt0) (trodAll_cons_mk (shut_int Try.underlying5 w1) (trodAll_cons_mk (shut_int Try.underlying5 w2) trodAll_mk0))), rfl, bel.frame _, fun h => by cases h⟩

theorem over : Rows.fieldFreeRow.holds Try.pinned (OpenSpec.ofChange Rows.fieldFreeSpec) :=
  OpenClaim.holds_of_wide 12 Try.f12 rfl rfl rfl rfl rfl rfl rfl ⟨rfl, rfl, rfl, rfl, rfl⟩ rfl rfl rfl rfl rfl (by kernel_rfl) Try.func12 (by kernel_rfl)
    (of_decide_eq_true (by kernel_rfl)) (by unfold Func.isWrapper; first | (rw [if_pos (by decide +kernel)]; kernel_rfl) | (rw [if_neg (by decide +kernel)]; exact ⟨rfl, rfl⟩))
    (fun os started H enc _ => lifted os started H enc)

/-- the statement -/
theorem proved : Rows.FieldFreeSaid := over
end Go.Proofs.Ytdjejohppbkbcaa.fieldFree
