/-
  For every two lists of bytes and every byte the law FieldRoots of package field returns true and leaves its arguments as they were; there is no condition.
-/
import Derived.Test.YtdjejohppbkbcaaRows
import Derived.WalkKit
import Derived.ProofKit
import Derived.OpenShut
import Derived.ShutString
import Derived.ChangeOld
import Derived.Below
import Derived.Test.YtdjejohppbkbcaaRs
import Derived.RegionTactic
import Derived.ChangeAlike
import Derived.BigRegion
namespace Go.Proofs.Ytdjejohppbkbcaa.fieldRoots
open Go.ChangeShapes Go.WideShapes Go.ChangeAt Go.RowKit
open Go.ChangeMaps (open_string shut_string)
set_option linter.unusedVariables false

theorem own : ownKnob Try.prog.godebug = none := by kernel_rfl
theorem laidOut : laidOutB Try.prog = true := by kernel_rfl

open Go.Proofs.Ytdjejohppbkbcaa in
theorem row_nil {k : IntKind} {w : World} {a : Option Addr} {len cap : Nat} {zs : List Int} (h : IsRow k w a len cap zs) : a = none → cap = 0 := by
  rintro rfl
  rcases h with ⟨_, _, h, _⟩ | ⟨x, h, _⟩
  · exact h
  · cases h
open Go.Proofs.Ytdjejohppbkbcaa in
set_option maxRecDepth 100000 in
set_option maxHeartbeats 2000000 in
theorem walk (a0 : Option Addr) (len0 cap0 : Nat) (z0 : List Int) (a1 : Option Addr) (len1 cap1 : Nat) (z1 : List Int) (a2 : Int) (w : World) (w0 : IsRow .u8 w a0 len0 cap0 z0) (w1 : IsRow .u8 w a1 len1 cap1 z1) (w2 : (Lit.int .u8 a2).wf = true) :
    Calls Try.prog 13 #[.slice a0 len0 cap0, .slice a1 len1 cap1, .int .u8 a2] w fun e w' => e = .returned (.bool true) ∧ Below w.heap.size w w' := by
  have b2 := bounds_u8 w2
  obtain ⟨X, rfl⟩ := Int.eq_ofNat_of_zero_le b2.1
  have hX : X < 256 := by omega
  obtain ⟨p, hp, m0⟩ := bs_of_row w0
  obtain ⟨q, hq, m1⟩ := bs_of_row w1
  have HN := Lib.hid (row_nil w0)
  clear w0 w1 w2 b2
  by_cases h1 : 12 < len0
  · go_enter Try.func13, Try.ntmps13
    go_wp2_with fail
    refine (alive_any _).mono ?_
    rintro e w1 ⟨rfl, hb⟩
    go_wp2_with fail
    go_ret
    exact ⟨rfl, hb⟩
  · by_cases h2 : len0 = len1
    · subst h2
      have t1 : ((len0 : Int) != (len0 : Int)) = false := by simp
      have h12 : len0 ≤ 12 := by omega
      have HL := Lib.hid (hp.1.trans hq.1.symm)
      have HP := Lib.hid hp.1
      go_enter Try.func13, Try.ntmps13
      go_wp2_with fail
      refine (alive_any _).mono ?_
      rintro e w1 ⟨rfl, hb⟩
      have p1 := hp.below hb
      have q1 := hq.below hb
      have r1 : Own (w1.alloc (.cells #[] 5)) w1.heap.size 5 #[] := Own.new _ _ _
      go_wp2_with (at_builtin; refine append_empty rfl (.tmp 24) (.tmp 25) rfl w1.heap.size w1.heap.size rfl r1 (Nat.le_refl _) a0 len0 cap0 p rfl (p1.below ((Below.refl _ _).alloc (Nat.le_refl _) _)) HN.out (by omega) (w1.heap.size + 1) ?c4 ?_; go_must (case c4 => simp); intro g cs w2 hs hbw2)
      have hw2 : Below w1.heap.size w1 w2 := ((Below.refl _ _).alloc (Nat.le_refl _) _).trans hbw2
      go_loopw [7, 29] (fun nn i wr => ∃ k : Nat, k ≤ len0 ∧ i = .int .i64 k ∧ nn = .bool (Gf.noneTo p k) ∧ RB wr w1.heap.size (some ⟨g, 0, none⟩) len0 cs (Gf.xorTo p q k) ∧ Below w1.heap.size w1 wr) (fun _ i _ => len0 - (intOf i).toNat)
      case atStart => exact ⟨0, Nat.zero_le _, rfl, rfl, by rw [Gf.xorTo_zero]; exact hs, hw2⟩
      case round =>
        obtain ⟨k, hk, rfl, rfl, hr, hw⟩ := hrel
        by_cases hlt : k < len0
        · have p2 := p1.below hw
          have q2 := q1.below hw
          obtain ⟨b, off, rfl, hc⟩ := p2.2.2 (by omega)
          obtain ⟨b', off', rfl, hc'⟩ := q2.2.2 (by omega)
          have c1 := hc k hlt
          have c2 := hc' k hlt
          have c3 := hr.cell k hlt
          have c4 := hr.frozen k
          clear hc hc'
          have np := hp.2.1.at_ k
          have nq := hq.2.1.at_ k
          have ns : Gf.nth (Gf.xorTo p q k) k = Gf.nth p k := by rw [Gf.nth_xorTo p q k k (by rw [hp.1]; exact hlt), if_neg (by omega)]
          rw [ns] at c3
          have X1 := xor8 (Gf.nth p k) (Gf.nth q k) np nq
          have XS := Lib.hid (Gf.xorTo_succ p q k (by rw [hp.1]; exact hlt))
          clear ns
          have RS := hr.set k (Gf.nth p k ^^^ Gf.nth q k) (Gf.xor_lt np nq)
          rw [XS.out] at RS
          cases hn : Gf.noneTo p k
          · have HNn := Lib.hid (show Gf.noneTo p (k + 1) = false by simp only [Gf.noneTo, hn, Bool.false_and])
            clear hn
            go_wp2_with fail
            go_region
            all_goals
              go_wp2_with fail
              go_roundw
              case rel => exact ⟨k + 1, by omega, by go_num, by rw [HNn.out], RS, (hw.setCell (show w1.heap.size ≤ g from hs.2.2.2.elim (fun h => by cases h.1) (fun ⟨g1, _, _, h1, h2, _⟩ => by simp at h1; omega)) _).drew⟩
              case measure => simp [intOf]; omega
          · by_cases hz : Gf.nth p k = 0
            · have t2 : ((Gf.nth p k : Int) == 0) = true := by rw [hz]; rfl
              have HNn := Lib.hid (show Gf.noneTo p (k + 1) = true by simp only [Gf.noneTo, hn, hz, Bool.true_and]; rfl)
              clear hn hz
              go_wp2_with fail
              go_region
              all_goals
                go_wp2_with fail
                go_roundw
                case rel => exact ⟨k + 1, by omega, by go_num, by rw [HNn.out], RS, (hw.setCell (show w1.heap.size ≤ g from hs.2.2.2.elim (fun h => by cases h.1) (fun ⟨g1, _, _, h1, h2, _⟩ => by simp at h1; omega)) _).drew⟩
                case measure => simp [intOf]; omega
            · have t2 : ((Gf.nth p k : Int) == 0) = false := by rw [beq_eq_false_iff_ne]; omega
              have HNn := Lib.hid (show Gf.noneTo p (k + 1) = false by simp only [Gf.noneTo, hn, Bool.true_and, beq_eq_false_iff_ne]; exact hz)
              clear hn hz
              go_wp2_with fail
              go_region
              all_goals
                go_wp2_with fail
                go_roundw
                case rel => exact ⟨k + 1, by omega, by go_num, by rw [HNn.out], RS, (hw.setCell (show w1.heap.size ≤ g from hs.2.2.2.elim (fun h => by cases h.1) (fun ⟨g1, _, _, h1, h2, _⟩ => by simp at h1; omega)) _).drew⟩
                case measure => simp [intOf]; omega
        · obtain rfl : k = len0 := by omega
          have hev := Gf.ev_xorTo p q HL.out X
          rw [HP.out] at hev
          have HEV := Lib.hid hev
          clear hev
          go_wp2_with fail
          obtain ⟨wo, rfl⟩ : ∃ wo : World, wo = wr := ⟨_, rfl⟩
          have p2 := p1.below hw
          have q2 := q1.below hw
          go_loopw [8, 51] (fun z i wr => ∃ j : Nat, j ≤ 256 ∧ i = .int .i64 j ∧ z = .int .i64 (Gf.zeros p j : Nat) ∧ Dr wo wr) (fun _ i _ => 256 - (intOf i).toNat)
          case atStart => exact ⟨0, Nat.zero_le _, rfl, rfl, Dr.refl _⟩
          case round =>
            obtain ⟨j, hj, rfl, rfl, hd⟩ := hrel
            have zl := Gf.zeros_le p j
            by_cases hjl : j < 256
            · have zs := Gf.zeros_succ p j
              by_cases he : Gf.ev p j = 0
              · have t2 : ((Gf.ev p j : Int) == 0) = true := by rw [he]; rfl
                rw [if_pos (by rw [he]; rfl)] at zs
                have ZS := Lib.hid zs
                clear zs he
                go_wp2_with fail
                refine (eval_any _ _ _ p j _ (by omega) (by omega) (p2.dr hd)).mono ?_
                rintro e w4 ⟨rfl, hd4⟩
                go_wp2_with fail
                go_roundw
                case rel => exact ⟨j + 1, by omega, by go_num, by rw [ZS.out]; go_num, hd.trans hd4⟩
                case measure => simp [intOf]; omega
              · have t2 : ((Gf.ev p j : Int) == 0) = false := by rw [beq_eq_false_iff_ne]; omega
                rw [if_neg (by simp [he])] at zs
                have ZS := Lib.hid zs
                clear zs he
                go_wp2_with fail
                refine (eval_any _ _ _ p j _ (by omega) (by omega) (p2.dr hd)).mono ?_
                rintro e w4 ⟨rfl, hd4⟩
                go_wp2_with fail
                go_roundw
                case rel => exact ⟨j + 1, by omega, by go_num, by rw [ZS.out]; rfl, hd.trans hd4⟩
                case measure => simp [intOf]; omega
            · obtain rfl : j = 256 := by omega
              have lP := Gf.ev_lt p2.2.1 X
              have lQ := Gf.ev_lt q2.2.1 X
              have X2 := xor8 _ _ lP lQ
              have t5 : (((Gf.ev p X ^^^ Gf.ev q X : Nat) : Int) == ((Gf.ev p X ^^^ Gf.ev q X : Nat) : Int)) = true := by simp
              cases hn : Gf.noneTo p k
              · have hz := Gf.zeros_few p2.2.1 (Gf.none_not (by rw [HP.out]; exact hn))
                rw [HP.out] at hz
                have t3 : decide ((Gf.zeros p 256 : Int) < (k : Int)) = true := by simp; omega
                go_wp2_with fail
                refine (eval_any _ _ _ (Gf.xorTo p q k) X _ hX m0 (hr.bs.dr hd)).mono ?_
                rintro e w4 ⟨rfl, hd4⟩
                rw [HEV.out]
                go_wp2_with fail
                refine (eval_any _ _ _ p X _ hX m0 ((p2.dr hd).dr hd4)).mono ?_
                rintro e w5 ⟨rfl, hd5⟩
                go_wp2_with fail
                refine (eval_any _ _ _ q X _ hX m0 (((q2.dr hd).dr hd4).dr hd5)).mono ?_
                rintro e w6 ⟨rfl, hd6⟩
                go_wp2_with fail
                go_ret
                exact ⟨rfl, Below.dr (Below.dr (Below.dr (Below.dr (hb.trans (hw.mono hb.size)) hd) hd4) hd5) hd6⟩
              · have hz := Gf.zeros_all (Gf.none_all (by rw [HP.out]; exact hn))
                have t3 : ((Gf.zeros p 256 : Int) == 256) = true := by rw [hz]; rfl
                clear hz
                go_wp2_with fail
                refine (eval_any _ _ _ (Gf.xorTo p q k) X _ hX m0 (hr.bs.dr hd)).mono ?_
                rintro e w4 ⟨rfl, hd4⟩
                rw [HEV.out]
                go_wp2_with fail
                refine (eval_any _ _ _ p X _ hX m0 ((p2.dr hd).dr hd4)).mono ?_
                rintro e w5 ⟨rfl, hd5⟩
                go_wp2_with fail
                refine (eval_any _ _ _ q X _ hX m0 (((q2.dr hd).dr hd4).dr hd5)).mono ?_
                rintro e w6 ⟨rfl, hd6⟩
                go_wp2_with fail
                go_ret
                exact ⟨rfl, Below.dr (Below.dr (Below.dr (Below.dr (hb.trans (hw.mono hb.size)) hd) hd4) hd5) hd6⟩
    · have t1 : ((len0 : Int) != (len1 : Int)) = true := by rw [bne_iff_ne]; omega
      clear h2
      go_enter Try.func13, Try.ntmps13
      go_wp2_with fail
      refine (alive_any _).mono ?_
      rintro e w1 ⟨rfl, hb⟩
      go_wp2_with fail
      go_ret
      exact ⟨rfl, hb⟩

set_option maxRecDepth 100000 in
theorem lifted (os : Os) (started : os.Started) (H : Type) (enc : TypeId × Value → H) :
    ReturnsInHanded {} Try.checked os 13 .any (Rows.fieldRootsSpec.pre6 enc Try.prog Try.f13 Rows.fieldRootsRow.domain false) (Rows.fieldRootsSpec.post enc Try.prog Try.f13 false true false false) := by
  refine returnsInHanded_of_change (C := Try.checked) own started (by kernel_rfl) Try.func13
    (ChangeSpec.witness6 (enc := enc) (C := Try.checked) false ⟨#[], #[.slice none 0 0, .slice none 0 0, .int .u8 0], []⟩ 8 (by kernel_rfl) (by kernel_rfl) (by kernel_rfl) (by kernel_rfl)) ?_
  intro W base args ds gs before hval0 hW hcnd _
  have hval : ∀ (j : Nat) t v, Try.f13.params[j]? = some t → args[j]? = some v → Value.okWide Try.prog W .any base t v := hval0
  have hW' := hW
  obtain ⟨p, q, hA0, hV, rfl, hfz, hnd⟩ := hW
  have hA : DataW.TrodAll enc Try.prog W 0 (fun _ => true) true Try.f13.params.toList args.toList ds p := hA0
  rw [Try.params13] at hA hval
  obtain ⟨v0, vs0, d0, ds0, p0, q0, hargs, rfl, rfl, h0, r0⟩ := trodAll_cons hA
  obtain ⟨v1, vs1, d1, ds1, p1, q1, rfl, rfl, rfl, h1, r1⟩ := trodAll_cons r0
  obtain ⟨v2, vs2, d2, ds2, p2, q2, rfl, rfl, rfl, h2, r2⟩ := trodAll_cons r1
  obtain ⟨rfl, rfl, rfl⟩ := trodAll_nil r2
  obtain rfl : args = #[v0, v1, v2] := by cases args; simp_all
  obtain ⟨rfl, rfl⟩ := trodVars_none hV
  obtain ⟨a0, len0, cap0, rfl⟩ := okWide_slice Try.underlying44 (hval 0 44 v0 rfl rfl)
  have k0 := h0
  have lt0 : ∀ x ∈ p0, x.block < W.heap.size := by obtain ⟨m, hm⟩ := k0; exact DataW.trod_lt m _ _ _ hm
  obtain ⟨z0, w0⟩ : ∃ zs, IsRow .u8 W a0 len0 cap0 zs := by
    obtain ⟨fuel, hf⟩ := h0
    rcases open_ints Try.underlying44 Try.underlying5 (by kernel_rfl) hf with ⟨hcs, _⟩ | ⟨x, l, c, zs, hcs, _, hl, hm, hz, _, hcell, hwz⟩
    · simp [Value.cells] at hcs
      obtain ⟨rfl, rfl, rfl⟩ := hcs
      exact ⟨[], .inl ⟨rfl, rfl, rfl, rfl⟩⟩
    · simp [Value.cells] at hcs
      obtain ⟨rfl, rfl, rfl⟩ := hcs
      exact ⟨zs, .inr ⟨_, rfl, hl, hm, by simpa using hz, hcell, hwz⟩⟩
  obtain ⟨a1, len1, cap1, rfl⟩ := okWide_slice Try.underlying44 (hval 1 44 v1 rfl rfl)
  have k1 := h1
  have lt1 : ∀ x ∈ p1, x.block < W.heap.size := by obtain ⟨m, hm⟩ := k1; exact DataW.trod_lt m _ _ _ hm
  obtain ⟨z1, w1⟩ : ∃ zs, IsRow .u8 W a1 len1 cap1 zs := by
    obtain ⟨fuel, hf⟩ := h1
    rcases open_ints Try.underlying44 Try.underlying5 (by kernel_rfl) hf with ⟨hcs, _⟩ | ⟨x, l, c, zs, hcs, _, hl, hm, hz, _, hcell, hwz⟩
    · simp [Value.cells] at hcs
      obtain ⟨rfl, rfl, rfl⟩ := hcs
      exact ⟨[], .inl ⟨rfl, rfl, rfl, rfl⟩⟩
    · simp [Value.cells] at hcs
      obtain ⟨rfl, rfl, rfl⟩ := hcs
      exact ⟨zs, .inr ⟨_, rfl, hl, hm, by simpa using hz, hcell, hwz⟩⟩
  obtain ⟨a2, rfl, rfl, rfl, w2⟩ := open_int Try.underlying5 (hval 2 5 v2 rfl rfl) h2
  clear hA0 hval0
  refine (walk a0 len0 cap0 z0 a1 len1 cap1 z1 a2 W w0 w1 w2).mono fun e W' ⟨he, bel⟩ => ?_
  subst he
  exact ⟨_, rfl, _, _, _, [], _, [], hW', trodAll_mk1 (shut_bool Try.underlying4 _), (trodAll_cons_mk (Below.trod laidOut (by kernel_rfl) (of_decide_eq_true (by kernel_rfl)) k0 bel lt0) (trodAll_cons_mk (Below.trod laidOut (by kernel_rfl) (of_decide_eq_true (by kernel_rfl)) k1 bel lt1) (trodAll_cons_mk (shut_int Try.underlying5 w2) trodAll_mk0))), rfl, bel.frame _, fun h => by cases h⟩

theorem over : Rows.fieldRootsRow.holds Try.pinned (OpenSpec.ofChange Rows.fieldRootsSpec) :=
  OpenClaim.holds_of_wide 13 Try.f13 rfl rfl rfl rfl rfl rfl rfl ⟨rfl, rfl, rfl, rfl, rfl⟩ rfl rfl rfl rfl rfl (by kernel_rfl) Try.func13 (by kernel_rfl)
    (of_decide_eq_true (by kernel_rfl)) (by unfold Func.isWrapper; first | (rw [if_pos (by decide +kernel)]; kernel_rfl) | (rw [if_neg (by decide +kernel)]; exact ⟨rfl, rfl⟩))
    (fun os started H enc _ => lifted os started H enc)

/-- the statement -/
theorem proved : Rows.FieldRootsSaid := over
end Go.Proofs.Ytdjejohppbkbcaa.fieldRoots
