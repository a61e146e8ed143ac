/-
  For every list of bytes and every two bytes the law FieldThrough of package field returns true and leaves its arguments as they were; there is no condition.
-/
import Derived.Test.YtdjejohppbkbcaaRows
import Derived.WalkKit
import Derived.ProofKit
import Derived.OpenShut
import Derived.ShutString
import Derived.ChangeOld
import Derived.Below
import Derived.Test.YtdjejohppbkbcaaRb
import Derived.Test.YtdjejohppbkbcaaGp
namespace Go.Proofs.Ytdjejohppbkbcaa.fieldThrough
open Go.ChangeShapes Go.WideShapes Go.ChangeAt Go.RowKit
open Go.ChangeMaps (open_string shut_string)
set_option linter.unusedVariables false

theorem own : ownKnob Try.prog.godebug = none := by kernel_rfl
theorem laidOut : laidOutB Try.prog = true := by kernel_rfl

open Go.Proofs.Ytdjejohppbkbcaa in
/-- the points of the law -/
def pts (F : Nat) (k : Nat) : List Nat := (List.range k).map fun i => (F + i * 7) % 256
def vals (l : List Nat) (F k : Nat) : List Nat := (pts F k).map fun x => Gf.ev l x
theorem pts_succ (F k : Nat) : pts F (k + 1) = pts F k ++ [(F + k * 7) % 256] := by simp [pts, List.range_succ]
theorem vals_succ (l : List Nat) (F k : Nat) : vals l F (k + 1) = vals l F k ++ [Gf.ev l ((F + k * 7) % 256)] := by simp [vals, pts_succ]
open Go.Proofs.Ytdjejohppbkbcaa in
set_option maxHeartbeats 1000000 in
theorem walk (a0 : Option Addr) (len0 cap0 : Nat) (z0 : List Int) (a1 : Int) (a2 : Int) (w : World) (w0 : IsRow .u8 w a0 len0 cap0 z0) (w1 : (Lit.int .u8 a1).wf = true) (w2 : (Lit.int .u8 a2).wf = true) :
    Calls Try.prog 11 #[.slice a0 len0 cap0, .int .u8 a1, .int .u8 a2] w fun e w' => e = .returned (.bool true) ∧ Below w.heap.size w w' := by
  have b1 := bounds_u8 w1
  have b2 := bounds_u8 w2
  obtain ⟨F, rfl⟩ := Int.eq_ofNat_of_zero_le b1.1
  obtain ⟨X, rfl⟩ := Int.eq_ofNat_of_zero_le b2.1
  have hF : F < 256 := by omega
  have hX : X < 256 := by omega
  obtain ⟨l, hl, m0⟩ := bs_of_row w0
  clear w0 w1 w2 b1 b2
  by_cases h1 : 12 < len0
  · go_enter Try.func11, Try.ntmps11
    go_wp2_with fail
    refine (alive_any _).mono ?_
    rintro e w1 ⟨rfl, hb⟩
    go_wp2_with fail
    go_ret
    exact ⟨rfl, hb⟩
  · go_enter Try.func11, Try.ntmps11
    go_wp2_with fail
    refine (alive_any _).mono ?_
    rintro e w1 ⟨rfl, hb⟩
    have l1 := hl.below hb
    go_wp2_with fail
    go_loopw [7, 8, 20] (fun p q i wr => ∃ k : Nat, k ≤ len0 ∧ i = .int .i64 k ∧ ∃ A c A' c', p = .slice A k c ∧ q = .slice A' k c' ∧ RB wr w1.heap.size A k c (pts F k) ∧ RB wr w1.heap.size A' k c' (vals l F k) ∧
      (∀ g g', A = some g → A' = some g' → g.block ≠ g'.block) ∧ Below w1.heap.size w1 wr) (fun _ _ i _ => len0 - (intOf i).toNat)
    case atStart => exact ⟨0, Nat.zero_le _, rfl, none, 0, none, 0, rfl, rfl, RB.nil _ _, RB.nil _ _, (fun _ _ h => by cases h), Below.refl _ _⟩
    case round =>
      obtain ⟨k, hk, rfl, A, c, A', c', rfl, rfl, hp, hq, hne, hw⟩ := hrel
      have HNE := Lib.hid hne
      clear hne
      by_cases hlt : k < len0
      · have hk12 : (k : Int) < 12 := by omega
        have hk0 : (0 : Int) ≤ (k : Int) := by omega
        have hY : (F + k * 7) % 256 < 256 := Nat.mod_lt _ (by omega)
        have eY : ((F : Int) + (k : Int) * 7) % 256 = (((F + k * 7) % 256 : Nat) : Int) := by omega
        have HY := Lib.hid eY
        clear eY
        have ps := Lib.hid (pts_succ F k)
        have vs := Lib.hid (vals_succ l F k)
        generalize hYn : (F + k * 7) % 256 = Y at *
        have HYn := Lib.hid hYn
        clear hYn
        have lE := Gf.ev_lt hl.2.1 Y
        go_wp2_with (at_builtin; go_must (refine app_byte rfl (.tmp 28) (.tmp 30) rfl w1.heap.size A k c (pts F k) rfl (hp.alloc _) wr.heap.size Y 1 rfl ?c1 hY (by omega) ?c3 (wr.heap.size + 1) ?c4 ?_); go_must (case c1 => (simp [bv, HY.out])); go_must (case c3 => (have := hw.size; simp; omega)); go_must (case c4 => simp); intro g cx w2 hp2 hg2 hor2 hbw2)
        have hw2 : Below w1.heap.size w1 w2 := (hw.alloc hw.size _).trans hbw2
        have hq2 : RB w2 w1.heap.size A' k c' (vals l F k) := (hq.alloc _).kept hg2 (fun g' hg' => by
          rcases hp.form with ⟨rfl, _⟩ | ⟨g0, rfl, _, _⟩
          · simp [Value.ownBlock]
          · have := HNE.out _ _ rfl hg'
            intro e
            simp [Value.ownBlock] at e
            exact this e.symm)
        go_wp2_with fail
        rw [HY.out]
        refine (eval_any _ _ _ l Y _ hY m0 (l1.below hw2)).mono ?_
        rintro e w3 ⟨rfl, hd3⟩
        go_wp2_with (at_builtin; refine app_byte rfl (.tmp 32) (.tmp 36) rfl w1.heap.size A' k c' (vals l F k) rfl ((hq2.dr hd3).alloc _) w3.heap.size (Gf.ev l Y) 1 rfl ?d1 lE (by omega) ?d3 (w3.heap.size + 1) ?d4 ?_; go_must (case d1 => (simp [bv])); go_must (case d3 => (have := (Below.dr hw2 hd3).size; simp; omega)); go_must (case d4 => simp); intro g' cy w4 hq4 hg4 hor4 hbw4)
        go_roundw
        case rel =>
          have z2 := hbw2.size
          have z3 := hd3.below.size
          rw [World.size_alloc] at z2
          have f1 : g < w2.heap.size := by
            rcases hp2.form with ⟨h, _⟩ | ⟨g0, h, _, h'⟩
            · cases h
            · simp at h; omega
          have f2 : ∀ x, A' = some x → x.block < wr.heap.size := by
            rintro x rfl
            rcases hq.form with ⟨h, _⟩ | ⟨g0, h, _, h'⟩
            · cases h
            · injection h with h; rw [h]; exact h'
          have f3 : ∀ x, A' = some x → g ≠ x.block := by
            intro x hx
            rcases hor2 with h | h
            · exact HNE.out _ _ h hx
            · have := f2 x hx; omega
          refine ⟨k + 1, by omega, by go_num, _, _, _, _, rfl, rfl, ?_, ?_, ?_, ((Below.dr hw2 hd3).alloc (Below.dr hw2 hd3).size _).trans hbw4⟩
          · rw [ps.out]
            refine ((hp2.dr hd3).alloc _).kept hg4 (fun g0 hg0 => ?_)
            simp at hg0
            subst hg0
            rcases A' with _ | x
            · simp [Value.ownBlock]
            · have := f3 x rfl
              simpa [Value.ownBlock] using this
          · rw [vs.out]
            exact hq4
          · intro x y hx hy
            injection hx with hx
            injection hy with hy
            subst hx
            subst hy
            show g ≠ g'
            rcases hor4 with h | h
            · exact f3 _ h
            · omega
        case measure => simp [intOf]; omega
      · obtain rfl : k = len0 := by omega
        have hd0 : Gf.dup (pts F k) = false := Gf.dup_not (fun i j hi hj hij => by
          have en : ∀ i, i < (pts F k).length → Gf.nth (pts F k) i = (F + i * 7) % 256 := by
            intro i hi
            rw [Gf.nth_eq]
            have : i < k := by simpa [pts] using hi
            simp [pts, this]
          rw [en i hi, en j hj]
          have h1 : i < k := by simpa [pts] using hi
          have h2 : j < k := by simpa [pts] using hj
          omega)
        have hln : (pts F k).length = (vals l F k).length := by simp [pts, vals]
        have hthr := Gf.through hl.2.1 hp.2.1 hq.2.1 hd0 (by rw [hl.1, hp.1]; exact Nat.le_refl _) (fun j hj => by
          rw [Gf.nth_eq, Gf.nth_eq, List.getElem?_eq_getElem hj, List.getElem?_eq_getElem (by rw [← hln]; exact hj)]
          simp [vals]) X hX
        have hat := AtIs.yes (X := X) hln hd0
        rw [hthr] at hat
        have HAT : ∀ e, AtIs (pts F k) (vals l F k) X e → e = .returned (.tuple #[.int .u8 (Gf.ev l X : Nat), .bool true]) := by
          intro e he
          unfold AtIs at he hat
          exact he.trans hat.symm
        have HA := Lib.hid HAT
        clear hat HAT hthr hln hd0
        go_wp2_with fail
        refine (at_any _ _ _ _ _ _ (pts F k) (vals l F k) X _ hX m0 m0 hp.bs hq.bs).mono ?_
        rintro e w2 ⟨he, hb2⟩
        rw [HA.out e he]
        clear he
        have l2 := (l1.below hw).below hb2
        go_wp2_with fail
        refine (eval_any _ _ _ l X _ hX m0 l2).mono ?_
        rintro e w3 ⟨rfl, hd3⟩
        go_wp2_with fail
        go_ret
        exact ⟨rfl, Below.dr ((hb.trans (hw.mono hb.size)).trans (hb2.mono (Nat.le_trans hb.size hw.size))) hd3⟩

set_option maxRecDepth 100000 in
theorem lifted (os : Os) (started : os.Started) (H : Type) (enc : TypeId × Value → H) :
    ReturnsInHanded {} Try.checked os 11 .any (Rows.fieldThroughSpec.pre6 enc Try.prog Try.f11 Rows.fieldThroughRow.domain false) (Rows.fieldThroughSpec.post enc Try.prog Try.f11 false true false false) := by
  refine returnsInHanded_of_change (C := Try.checked) own started (by kernel_rfl) Try.func11
    (ChangeSpec.witness6 (enc := enc) (C := Try.checked) false ⟨#[], #[.slice none 0 0, .int .u8 0, .int .u8 0], []⟩ 8 (by kernel_rfl) (by kernel_rfl) (by kernel_rfl) (by kernel_rfl)) ?_
  intro W base args ds gs before hval0 hW hcnd _
  have hval : ∀ (j : Nat) t v, Try.f11.params[j]? = some t → args[j]? = some v → Value.okWide Try.prog W .any base t v := hval0
  have hW' := hW
  obtain ⟨p, q, hA0, hV, rfl, hfz, hnd⟩ := hW
  have hA : DataW.TrodAll enc Try.prog W 0 (fun _ => true) true Try.f11.params.toList args.toList ds p := hA0
  rw [Try.params11] at hA hval
  obtain ⟨v0, vs0, d0, ds0, p0, q0, hargs, rfl, rfl, h0, r0⟩ := trodAll_cons hA
  obtain ⟨v1, vs1, d1, ds1, p1, q1, rfl, rfl, rfl, h1, r1⟩ := trodAll_cons r0
  obtain ⟨v2, vs2, d2, ds2, p2, q2, rfl, rfl, rfl, h2, r2⟩ := trodAll_cons r1
  obtain ⟨rfl, rfl, rfl⟩ := trodAll_nil r2
  obtain rfl : args = #[v0, v1, v2] := by cases args; simp_all
  obtain ⟨rfl, rfl⟩ := trodVars_none hV
  obtain ⟨a0, len0, cap0, rfl⟩ := okWide_slice Try.underlying44 (hval 0 44 v0 rfl rfl)
  have k0 := h0
  have lt0 : ∀ x ∈ p0, x.block < W.heap.size := by obtain ⟨m, hm⟩ := k0; exact DataW.trod_lt m _ _ _ hm
  obtain ⟨z0, w0⟩ : ∃ zs, IsRow .u8 W a0 len0 cap0 zs := by
    obtain ⟨fuel, hf⟩ := h0
    rcases open_ints Try.underlying44 Try.underlying5 (by kernel_rfl) hf with ⟨hcs, _⟩ | ⟨x, l, c, zs, hcs, _, hl, hm, hz, _, hcell, hwz⟩
    · simp [Value.cells] at hcs
      obtain ⟨rfl, rfl, rfl⟩ := hcs
      exact ⟨[], .inl ⟨rfl, rfl, rfl, rfl⟩⟩
    · simp [Value.cells] at hcs
      obtain ⟨rfl, rfl, rfl⟩ := hcs
      exact ⟨zs, .inr ⟨_, rfl, hl, hm, by simpa using hz, hcell, hwz⟩⟩
  obtain ⟨a1, rfl, rfl, rfl, w1⟩ := open_int Try.underlying5 (hval 1 5 v1 rfl rfl) h1
  obtain ⟨a2, rfl, rfl, rfl, w2⟩ := open_int Try.underlying5 (hval 2 5 v2 rfl rfl) h2
  clear hA0 hval0
  refine (walk a0 len0 cap0 z0 a1 a2 W w0 w1 w2).mono fun e W' ⟨he, bel⟩ => ?_
  subst he
  exact ⟨_, rfl, _, _, _, [], _, [], hW', trodAll_mk1 (shut_bool Try.underlying4 _), (trodAll_cons_mk (Below.trod laidOut (by kernel_rfl) (of_decide_eq_true (by kernel_rfl)) k0 bel lt0) (trodAll_cons_mk (shut_int Try.underlying5 w1) (trodAll_cons_mk (shut_int Try.underlying5 w2) trodAll_mk0))), rfl, bel.frame _, fun h => by cases h⟩

theorem over : Rows.fieldThroughRow.holds Try.pinned (OpenSpec.ofChange Rows.fieldThroughSpec) :=
  OpenClaim.holds_of_wide 11 Try.f11 rfl rfl rfl rfl rfl rfl rfl ⟨rfl, rfl, rfl, rfl, rfl⟩ rfl rfl rfl rfl rfl (by kernel_rfl) Try.func11 (by kernel_rfl)
    (of_decide_eq_true (by kernel_rfl)) (by unfold Func.isWrapper; first | (rw [if_pos (by decide +kernel)]; kernel_rfl) | (rw [if_neg (by decide +kernel)]; exact ⟨rfl, rfl⟩))
    (fun os started H enc _ => lifted os started H enc)

/-- the statement -/
theorem proved : Rows.FieldThroughSaid := over
end Go.Proofs.Ytdjejohppbkbcaa.fieldThrough
