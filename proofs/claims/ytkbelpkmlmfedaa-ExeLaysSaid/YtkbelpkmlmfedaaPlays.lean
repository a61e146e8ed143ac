/-
  For every program the law ExeLays of package exe returns true: the pages that it begins with, or the error, are the document's; the argument reads as before
-/
import Derived.Test.YtkbelpkmlmfedaaRows
import Derived.WalkKit
import Derived.ProofKit
import Derived.OpenShut
import Derived.ShutString
import Derived.Test.YtkbelpkmlmfedaaLw
namespace Go.Proofs.Ytkbelpkmlmfedaa.exeLays
open Go.ChangeShapes Go.WideShapes Go.ChangeAt Go.RowKit
open Go.ChangeMaps (open_string shut_string)
open _root_.Go.Proofs.Ytkbelpkmlmfedaa.Xe
set_option linter.unusedVariables false
set_option linter.unusedSimpArgs false

theorem own : ownKnob Try.prog.godebug = none := by kernel_rfl
set_option maxRecDepth 100000 in
set_option maxHeartbeats 4000000 in
theorem walk (x : Xv) (l : List Nat) (hx : x.Ok) (hw : Em.Wd l) (w : World) (hW : Ws w x.a x.n l) :
    Calls Try.prog 5 #[.agg x.cs] w fun e w' => e = .returned (.bool true) ∧ Below w.heap.size w w' := by
  have st0 := Kx.new w x
  obtain ⟨V, hV⟩ : ∃ V, V = w.alloc (Obj.cells x.cs 25) := ⟨_, rfl⟩
  have st := st0
  rw [← hV] at st
  obtain ⟨k0, k1, k2, k3⟩ := st0.k
  have HV := Lib.hid hV
  clear hV st0
  have hg := fun wr => great_any x wr
  by_cases hG : greatB x = true
  · rw [hG] at hg
    clear hG
    obtain ⟨a, n, c, d, r, e⟩ := x
    dsimp only at *
    go_enter Try.func5, Try.ntmps5
    go_wp2_with fail
    change Calls _ _ _ (w.alloc (Obj.cells (Xv.cs _) 25)) _
    rw [← HV.out]
    refine (hg _).mono ?_
    rintro e w1 ⟨rfl, hx1⟩
    replace st := st.below hx1
    go_wp2_with fail
    refine (awake_any _).mono ?_
    rintro e w2 ⟨rfl, hx1⟩
    replace st := st.below hx1
    go_wp2_with fail
    go_ret
    exact ⟨rfl, st.b⟩
  · have hG' : greatB x = false := by simpa using hG
    rw [hG'] at hg
    clear hG hG'
    have h24 := fun wr (o : Kx w wr x) => lay_any x l hx wr (hW.belowW o.b) hw
    have h25 := fun wr (o : Kx w wr x) => rlay_any x l hx wr (hW.belowW o.b) hw
    unfold LayIs at h24 h25
    obtain ⟨k, hk⟩ : ∃ k : Nat, k = chkN x := ⟨_, rfl⟩
    rw [← hk] at h24 h25
    have hL : (layL x l).length ≤ 100 := lay_small x l
    generalize layL x l = L at *
    obtain ⟨a, n, c, d, r, e⟩ := x
    dsimp only at *
    clear hk hx hw hW
    go_enter Try.func5, Try.ntmps5
    go_wp2_with fail
    change Calls _ _ _ (w.alloc (Obj.cells (Xv.cs _) 25)) _
    rw [← HV.out]
    clear k0 k1 k2 k3 HV
    refine (hg _).mono ?_
    rintro e w1 ⟨rfl, hx1⟩
    replace st := st.below hx1
    clear hx1 hg
    have st' := st
    obtain ⟨⟨k0, k1, k2, k3⟩, -⟩ := st'
    dsimp only at k0 k1 k2 k3
    go_wp2_with fail
    clear k0 k1 k2 k3
    refine (h24 _ st).mono ?_
    rintro e w2 ⟨⟨A, m, cc, rfl, hr⟩, hx1⟩
    replace st := st.below hx1
    clear hx1 h24
    have st' := st
    obtain ⟨⟨k0, k1, k2, k3⟩, -⟩ := st'
    dsimp only at k0 k1 k2 k3
    go_wp2_with fail
    clear k0 k1 k2 k3
    refine (h25 _ st).mono ?_
    rintro e w3 ⟨⟨A', m', cc', rfl, hr'⟩, hx1⟩
    replace st := st.below hx1
    replace hr := hr.below hx1
    clear hx1 h25
    obtain rfl : m = m' := hr.1.symm.trans hr'.1
    have hm : m ≤ 100 := by rw [← hr.1]; exact hL
    go_wp2_with fail
    go_loopw [7] (fun i wr => ∃ k : Nat, k ≤ m ∧ i = .int .i64 k ∧ Nm.Dr w3 wr) (fun i _ => m - (intOf i).toNat)
    case atStart => exact ⟨0, Nat.zero_le _, rfl, Nm.Dr.refl _⟩
    case round =>
      obtain ⟨j, hj, rfl, hd⟩ := hrel
      by_cases hlt : j < m
      · have hjl : j < L.length := by rw [hr.1]; exact hlt
        have hp : L[j]? = some L[j] := List.getElem?_eq_getElem hjl
        rcases hr.form with ⟨_, h0⟩ | ⟨g, rfl, _, _⟩
        · omega
        rcases hr'.form with ⟨_, h0⟩ | ⟨g', rfl, _, _⟩
        · omega
        obtain ⟨c0, c1, c2⟩ := hr.cells j _ hp
        obtain ⟨d0, d1, d2⟩ := hr'.cells j _ hp
        generalize L[j] = p at *
        rw [← hd.cell] at c0 c1 c2 d0 d1 d2
        have b1 : (j : Int) < (m : Int) := by omega
        have t1 := Nm.str_yes (rfl : p.d = p.d)
        clear hr hr' hp hjl hL
        go_wp2_with fail
        go_quiet (fail)
        go_wp2_with fail
        go_roundw
        case rel => exact ⟨j + 1, by omega, by go_num, hd.drewN _⟩
        case measure => simp [intOf]; omega
      · obtain rfl : j = m := by omega
        go_wp2_with fail
        refine (awake_any _).mono ?_
        rintro e w4 ⟨rfl, hx1⟩
        go_wp2_with fail
        go_ret
        exact ⟨rfl, (Nm.below_dr st.b hd).trans (hx1.mono (Nm.below_dr st.b hd).size)⟩

set_option maxRecDepth 100000 in
theorem lifted (os : Os) (started : os.Started) (H : Type) (enc : TypeId × Value → H) :
    ReturnsInHanded {} Try.checked os 5 .any (Rows.exeLaysSpec.pre6 enc Try.prog Try.f5 Rows.exeLaysRow.domain false) (Rows.exeLaysSpec.post enc Try.prog Try.f5 false true false false) := by
  refine returnsInHanded_of_change (C := Try.checked) own started (by kernel_rfl) Try.func5
    (ChangeSpec.witness6 (enc := enc) (C := Try.checked) false ⟨#[], #[.agg #[.slice none 0 0, .string ByteArray.empty, .int .i64 0, .int .u32 0]], []⟩ 8 (by kernel_rfl) (by kernel_rfl) (by kernel_rfl) (by kernel_rfl)) ?_
  intro W base args ds gs before hval0 hW hcnd _
  have hval : ∀ (j : Nat) t v, Try.f5.params[j]? = some t → args[j]? = some v → Value.okWide Try.prog W .any base t v := hval0
  have hW' := hW
  obtain ⟨p, q, hA0, hV, rfl, hfz, hnd⟩ := hW
  have hA : DataW.TrodAll enc Try.prog W 0 (fun _ => true) true Try.f5.params.toList args.toList ds p := hA0
  rw [Try.params5] at hA hval
  obtain ⟨v0, vs0, d0, ds0, p0, q0, hargs, rfl, rfl, h0, r0⟩ := trodAll_cons hA
  obtain ⟨rfl, rfl, rfl⟩ := trodAll_nil r0
  obtain rfl : args = #[v0] := by cases args; simp_all
  obtain ⟨rfl, rfl⟩ := trodVars_none hV
  obtain ⟨x0, l0, rfl, ok0, ws0, wd0⟩ := okExe (hval 0 25 v0 rfl rfl) h0
  have k0 := h0
  have lt0 : ∀ x ∈ p0, x.block < W.heap.size := by obtain ⟨m, hm⟩ := k0; exact DataW.trod_lt m _ _ _ hm
  clear hA0 hval0
  refine (walk x0 l0 ok0 wd0 W ws0).mono fun e W' ⟨he, bel⟩ => ?_
  subst he
  exact ⟨_, rfl, _, _, _, [], _, [], hW', trodAll_mk1 (shut_bool Try.underlying4 _), (trodAll_cons_mk (Below.trod laidOut (by kernel_rfl) (of_decide_eq_true (by kernel_rfl)) k0 bel lt0) trodAll_mk0), rfl, bel.frame _, fun h => by cases h⟩

theorem over : Rows.exeLaysRow.holds Try.pinned (OpenSpec.ofChange Rows.exeLaysSpec) :=
  OpenClaim.holds_of_wide 5 Try.f5 rfl rfl rfl rfl rfl rfl rfl ⟨rfl, rfl, rfl, rfl, rfl⟩ rfl rfl rfl rfl rfl (by kernel_rfl) Try.func5 (by kernel_rfl)
    (of_decide_eq_true (by kernel_rfl)) (by unfold Func.isWrapper; first | (rw [if_pos (by decide +kernel)]; kernel_rfl) | (rw [if_neg (by decide +kernel)]; exact ⟨rfl, rfl⟩))
    (fun os started H enc _ => lifted os started H enc)

/-- the statement -/
theorem proved : Rows.ExeLaysSaid := over
end Go.Proofs.Ytkbelpkmlmfedaa.exeLays
