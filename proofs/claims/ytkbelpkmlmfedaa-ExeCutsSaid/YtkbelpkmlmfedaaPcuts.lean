/-
  For every program and every number the law ExeCuts of package exe returns true: the file cut short is told to be short, one byte more is told to be no form; the arguments read as before
-/
import Derived.Test.YtkbelpkmlmfedaaRows
import Derived.WalkKit
import Derived.ProofKit
import Derived.OpenShut
import Derived.ShutString
import Derived.Test.YtkbelpkmlmfedaaLw
import Derived.Test.YtkbelpkmlmfedaaEf
namespace Go.Proofs.Ytkbelpkmlmfedaa.exeCuts
open Go.ChangeShapes Go.WideShapes Go.ChangeAt Go.RowKit
open Go.ChangeMaps (open_string shut_string)
open _root_.Go.Proofs.Ytkbelpkmlmfedaa.Xe
open _root_.Go.Proofs.Ytkbelpkmlmfedaa.Nm
set_option linter.unusedVariables false
set_option linter.unusedSimpArgs false

theorem own : ownKnob Try.prog.godebug = none := by kernel_rfl
theorem nat_u16 {n : Int} (h : (Lit.int .u16 n).wf = true) : ∃ m : Nat, n = (m : Int) ∧ m < 65536 := by
  simp [Lit.wf, IntKind.min, IntKind.max, IntKind.signed, IntKind.bits] at h
  obtain ⟨m, rfl⟩ := Int.eq_ofNat_of_zero_le h.1
  exact ⟨m, rfl, by omega⟩
theorem zc : z0.cs = #[.slice none 0 0, .string ⟨#[]⟩, .int .i64 0, .int .u32 0] := rfl
set_option maxRecDepth 100000 in
set_option maxHeartbeats 2000000 in
theorem walk (x : Xv) (l : List Nat) (k : Nat) (hx : x.Ok) (hw : Em.Wd l) (hk : k < 65536) (w : World) (hW : Ws w x.a x.n l) :
    Calls Try.prog 7 #[.agg x.cs, .int .u16 k] w fun e w' => e = .returned (.bool true) ∧ Below w.heap.size w w' := by
  have st0 := Kx.new w x
  obtain ⟨V, hV⟩ : ∃ V, V = w.alloc (Obj.cells x.cs 25) := ⟨_, rfl⟩
  have st := st0
  rw [← hV] at st
  obtain ⟨k0, k1, k2, k3⟩ := st0.k
  have HV := Lib.hid hV
  clear hV st0
  have hg := fun wr => great_any x wr
  have hc := fun wr => rcheck_any x hx wr
  by_cases hG : greatB x = true
  · rw [hG] at hg
    clear hG
    obtain ⟨a, n, c, d, r, e⟩ := x
    dsimp only at *
    go_enter Try.func7, Try.ntmps7
    go_wp2_with fail
    change Calls _ _ _ (w.alloc (Obj.cells (Xv.cs _) 25)) _
    rw [← HV.out]
    refine (hg _).mono ?_
    rintro e w1 ⟨rfl, hx1⟩
    replace st := st.below hx1
    go_wp2_with fail
    refine (awake_any _).mono ?_
    rintro e w2 ⟨rfl, hx1⟩
    replace st := st.below hx1
    go_wp2_with fail
    go_ret
    exact ⟨rfl, st.b⟩
  · have hG' : greatB x = false := by simpa using hG
    rw [hG'] at hg
    clear hG hG'
    have hb17 := fun wr (o : Kx w wr x) => bytes_any x l hx wr (hW.belowW o.b) hw
    by_cases hb : badN x.n x.d.size x.r x.e
    · rw [chkN_bad hb] at hc
      clear hb17
      obtain ⟨a, n, c, d, r, e⟩ := x
      dsimp only at *
      go_enter Try.func7, Try.ntmps7
      go_wp2_with fail
      change Calls _ _ _ (w.alloc (Obj.cells (Xv.cs _) 25)) _
      rw [← HV.out]
      clear k0 k1 k2 k3 HV
      refine (hg _).mono ?_
      rintro e w1 ⟨rfl, hx1⟩
      replace st := st.below hx1
      have st' := st
      obtain ⟨⟨k0, k1, k2, k3⟩, -⟩ := st'
      dsimp only at k0 k1 k2 k3
      go_wp2_with fail
      refine (hc _).mono ?_
      rintro e w2 ⟨rfl, hx2⟩
      replace st := st.below hx2
      go_wp2_with fail
      refine (awake_any _).mono ?_
      rintro e w3 ⟨rfl, hx3⟩
      replace st := st.below hx3
      go_wp2_with fail
      go_ret
      exact ⟨rfl, st.b⟩
    · rw [chkN_ok hb] at hc hb17
      have hbE : ¬ Em.bad ⟨l, toL x.d, x.r, x.e⟩ := fun h => hb (by
        unfold Em.bad at h
        unfold badN
        simpa only [hW.1, toL_length] using h)
      have hF : toL (fileX x l) = Em.file ⟨l, toL x.d, x.r, x.e⟩ := by rw [fileX, if_neg hb]; simp [toL]
      have hlen := Em.file_len ⟨l, toL x.d, x.r, x.e⟩
      have hcut := Em.err_cut hbE hx.e hw
      have hmore := Em.err_more hbE hx.e hw 120
      rw [← hF] at hlen hcut hmore
      have hz : (fileX x l).size = 14 + 4 * x.n + x.d.size := by rw [← toL_length, hlen]; simp only [hW.1, toL_length]
      have hsm : (fileX x l).size ≤ 5000 := by unfold badN at hb; omega
      generalize fileX x l = F at *
      have hj : k % F.size < F.size := Nat.mod_lt _ (by omega)
      have e4 : Em.err (toL (F.extract 0 (k % F.size))) = 4 := by
        rw [toL_extract, List.drop_zero, Nat.sub_zero]
        exact hcut _ (by rw [toL_length]; exact hj)
      have e3 : Em.err (toL (F ++ ⟨#[120]⟩)) = 3 := by
        rw [show toL (F ++ ⟨#[120]⟩) = toL F ++ [120] from by simp [toL]]
        exact hmore
      have ho1 := fun wr => of_any (F.extract 0 (k % F.size)) wr (by rw [ByteArray.size_extract]; omega)
      have ho2 := fun wr => of_any (F ++ ⟨#[120]⟩) wr (by rw [ByteArray.size_append]; show F.size + 1 ≤ _; omega)
      have em : ((k % F.size : Nat) : Int) = (k : Int) % (F.size : Int) := by omega
      have i1 : ¬ (F.size : Int) = 0 := by omega
      have i2 : 0 ≤ (k : Int) % (F.size : Int) := by omega
      have i3 : (k : Int) % (F.size : Int) ≤ (F.size : Int) := by omega
      have i4 : ((k : Int) % (F.size : Int)).toNat = k % F.size := by omega
      have i5 : ¬ 9223372036854775807 < F.size + 1 := by omega
      have zW : ∀ wr, Ws wr z0.a z0.n [] := fun wr => ⟨rfl, fun h => absurd h (by decide)⟩
      have hs := fun wr => same_any z0 z0 [] [] wr z0_ok z0_ok (zW wr) (zW wr)
      rw [show sameB z0 z0 [] [] = true from by simp [sameB]] at hs
      obtain ⟨a, n, c, d, r, e⟩ := x
      dsimp only at *
      clear hb hbE hF hlen hcut hmore hz hj em hw hx hW zW
      go_enter Try.func7, Try.ntmps7
      go_wp2_with fail
      change Calls _ _ _ (w.alloc (Obj.cells (Xv.cs _) 25)) _
      rw [← HV.out]
      clear k0 k1 k2 k3 HV
      refine (hg _).mono ?_
      rintro e w1 ⟨rfl, hx1⟩
      replace st := st.below hx1
      clear hx1
      have st' := st
      obtain ⟨⟨k0, k1, k2, k3⟩, -⟩ := st'
      dsimp only at k0 k1 k2 k3
      go_wp2_with fail
      clear k0 k1 k2 k3
      refine (hc _).mono ?_
      rintro e w2 ⟨rfl, hx1⟩
      replace st := st.below hx1
      clear hx1
      have st' := st
      obtain ⟨⟨k0, k1, k2, k3⟩, -⟩ := st'
      dsimp only at k0 k1 k2 k3
      go_wp2_with fail
      clear k0 k1 k2 k3
      refine (hb17 _ st).mono ?_
      rintro e w3 ⟨rfl, hx1⟩
      replace st := st.below hx1
      clear hx1 hg hc hb17
      go_wp2_with fail
      refine (ho1 _).mono ?_
      rintro e w4 ⟨⟨y, m, rfl, yok, yW, yWd, -, h0⟩, hx1⟩
      obtain ⟨rfl, rfl⟩ := h0 (by rw [e4]; decide)
      replace st := st.below hx1
      clear hx1 yok yW yWd h0
      rw [e4]
      rw [zc]
      have a7 := at_new w4 z0 25
      rw [zc] at a7
      have b7 := grow w4 (Obj.cells #[.slice none 0 0, .string ⟨#[]⟩, .int .i64 0, .int .u32 0] 25)
      have st7 := st.below b7
      go_wp2_with fail
      change Calls _ _ _ (w4.alloc (Obj.cells #[.slice none 0 0, .string ⟨#[]⟩, .int .i64 0, .int .u32 0] 25)) _
      generalize w4.alloc (Obj.cells #[.slice none 0 0, .string ⟨#[]⟩, .int .i64 0, .int .u32 0] 25) = w5 at *
      generalize w4.heap.size = g at *
      refine (ho2 _).mono ?_
      rintro e w6 ⟨⟨y, m, rfl, yok, yW, yWd, -, h0⟩, hx1⟩
      obtain ⟨rfl, rfl⟩ := h0 (by rw [e3]; decide)
      replace st7 := st7.below hx1
      replace a7 := a7.below (at_lt a7) hx1
      clear hx1 yok yW yWd h0 st b7
      rw [e3, zc]
      have a9 := at_new w6 z0 25
      have a7' := a7.below (at_lt a7) (grow w6 (Obj.cells z0.cs 25))
      have st9 := st7.below (grow w6 (Obj.cells z0.cs 25))
      rw [zc] at a7' a9 st9
      have A9 := a9
      obtain ⟨p0, p1, p2, p3⟩ := a7'
      obtain ⟨q0, q1, q2, q3⟩ := a9
      go_wp2_with fail
      generalize w6.alloc (Obj.cells #[.slice none 0 0, .string ⟨#[]⟩, .int .i64 0, .int .u32 0] 25) = w7 at *
      refine (hs _).mono ?_
      rintro e w8 ⟨rfl, hx1⟩
      replace st9 := st9.below hx1
      replace A9 := A9.below (at_lt A9) hx1
      clear p0 p1 p2 p3 q0 q1 q2 q3 hx1
      obtain ⟨q0, q1, q2, q3⟩ := A9
      go_wp2_with fail
      refine (hs _).mono ?_
      rintro e w9 ⟨rfl, hx1⟩
      replace st9 := st9.below hx1
      clear q0 q1 q2 q3 hx1
      go_wp2_with fail
      refine (awake_any _).mono ?_
      rintro e w10 ⟨rfl, hx1⟩
      replace st9 := st9.below hx1
      go_wp2_with fail
      go_ret
      exact ⟨rfl, st9.b⟩

set_option maxRecDepth 100000 in
theorem lifted (os : Os) (started : os.Started) (H : Type) (enc : TypeId × Value → H) :
    ReturnsInHanded {} Try.checked os 7 .any (Rows.exeCutsSpec.pre6 enc Try.prog Try.f7 Rows.exeCutsRow.domain false) (Rows.exeCutsSpec.post enc Try.prog Try.f7 false true false false) := by
  refine returnsInHanded_of_change (C := Try.checked) own started (by kernel_rfl) Try.func7
    (ChangeSpec.witness6 (enc := enc) (C := Try.checked) false ⟨#[], #[.agg #[.slice none 0 0, .string ByteArray.empty, .int .i64 0, .int .u32 0], .int .u16 0], []⟩ 8 (by kernel_rfl) (by kernel_rfl) (by kernel_rfl) (by kernel_rfl)) ?_
  intro W base args ds gs before hval0 hW hcnd _
  have hval : ∀ (j : Nat) t v, Try.f7.params[j]? = some t → args[j]? = some v → Value.okWide Try.prog W .any base t v := hval0
  have hW' := hW
  obtain ⟨p, q, hA0, hV, rfl, hfz, hnd⟩ := hW
  have hA : DataW.TrodAll enc Try.prog W 0 (fun _ => true) true Try.f7.params.toList args.toList ds p := hA0
  rw [Try.params7] at hA hval
  obtain ⟨v0, vs0, d0, ds0, p0, q0, hargs, rfl, rfl, h0, r0⟩ := trodAll_cons hA
  obtain ⟨v1, vs1, d1, ds1, p1, q1, rfl, rfl, rfl, h1, r1⟩ := trodAll_cons r0
  obtain ⟨rfl, rfl, rfl⟩ := trodAll_nil r1
  obtain rfl : args = #[v0, v1] := by cases args; simp_all
  obtain ⟨rfl, rfl⟩ := trodVars_none hV
  obtain ⟨x0, l0, rfl, ok0, ws0, wd0⟩ := okExe (hval 0 25 v0 rfl rfl) h0
  have k0 := h0
  have lt0 : ∀ x ∈ p0, x.block < W.heap.size := by obtain ⟨m, hm⟩ := k0; exact DataW.trod_lt m _ _ _ hm
  obtain ⟨n1, rfl, rfl, rfl, w1⟩ := open_int Try.underlying43 (hval 1 43 v1 rfl rfl) h1
  obtain ⟨m1, rfl, z1⟩ := nat_u16 w1
  clear hA0 hval0
  refine (walk x0 l0 m1 ok0 wd0 z1 W ws0).mono fun e W' ⟨he, bel⟩ => ?_
  subst he
  exact ⟨_, rfl, _, _, _, [], _, [], hW', trodAll_mk1 (shut_bool Try.underlying4 _), (trodAll_cons_mk (Below.trod laidOut (by kernel_rfl) (of_decide_eq_true (by kernel_rfl)) k0 bel lt0) (trodAll_cons_mk (shut_int Try.underlying43 w1) trodAll_mk0)), rfl, bel.frame _, fun h => by cases h⟩

theorem over : Rows.exeCutsRow.holds Try.pinned (OpenSpec.ofChange Rows.exeCutsSpec) :=
  OpenClaim.holds_of_wide 7 Try.f7 rfl rfl rfl rfl rfl rfl rfl ⟨rfl, rfl, rfl, rfl, rfl⟩ rfl rfl rfl rfl rfl (by kernel_rfl) Try.func7 (by kernel_rfl)
    (of_decide_eq_true (by kernel_rfl)) (by unfold Func.isWrapper; first | (rw [if_pos (by decide +kernel)]; kernel_rfl) | (rw [if_neg (by decide +kernel)]; exact ⟨rfl, rfl⟩))
    (fun os started H enc _ => lifted os started H enc)

/-- the statement -/
theorem proved : Rows.ExeCutsSaid := over
end Go.Proofs.Ytkbelpkmlmfedaa.exeCuts
