/-
  For every program: the code says as the document whether it may be, and what its file is, or the error; the file is read as the program again. No condition.
-/
import Derived.Test.YtkbelpkmlmfedaaRows
import Derived.WalkKit
import Derived.ProofKit
import Derived.OpenShut
import Derived.ShutString
import Derived.Test.YtkbelpkmlmfedaaLw
import Derived.Test.YtkbelpkmlmfedaaEf
namespace Go.Proofs.Ytkbelpkmlmfedaa.exeBytes
open Go.ChangeShapes Go.WideShapes Go.ChangeAt Go.RowKit
open Go.ChangeMaps (open_string shut_string)
open _root_.Go.Proofs.Ytkbelpkmlmfedaa.Xe
open _root_.Go.Proofs.Ytkbelpkmlmfedaa.Nm
set_option linter.unusedVariables false
set_option linter.unusedSimpArgs false

theorem own : ownKnob Try.prog.godebug = none := by kernel_rfl
set_option maxRecDepth 100000 in
set_option maxHeartbeats 4000000 in
theorem walk (x : Xv) (l : List Nat) (hx : x.Ok) (hw : Em.Wd l) (w : World) (hW : Ws w x.a x.n l) :
    Calls Try.prog 3 #[.agg x.cs] w fun e w' => e = .returned (.bool true) ∧ Below w.heap.size w w' := by
  have st0 := Kx.new w x
  obtain ⟨V, hV⟩ : ∃ V, V = w.alloc (Obj.cells x.cs 25) := ⟨_, rfl⟩
  have st := st0
  rw [← hV] at st
  obtain ⟨k0, k1, k2, k3⟩ := st0.k
  have HV := Lib.hid hV
  clear hV st0
  have hg := fun wr => great_any x wr
  by_cases hG : greatB x = true
  · rw [hG] at hg
    clear hG
    obtain ⟨a, n, c, d, r, e⟩ := x
    dsimp only at *
    go_enter Try.func3, Try.ntmps3
    go_wp2_with fail
    change Calls _ _ _ (w.alloc (Obj.cells (Xv.cs _) 25)) _
    rw [← HV.out]
    refine (hg _).mono ?_
    rintro e w1 ⟨rfl, hx1⟩
    replace st := st.below hx1
    go_wp2_with fail
    refine (awake_any _).mono ?_
    rintro e w2 ⟨rfl, hx1⟩
    replace st := st.below hx1
    go_wp2_with fail
    go_ret
    exact ⟨rfl, st.b⟩
  · have hG' : greatB x = false := by simpa using hG
    rw [hG'] at hg
    clear hG hG'
    have h17 := fun wr (o : Kx w wr x) => bytes_any x l hx wr (hW.belowW o.b) hw
    have h18 := fun wr (o : Kx w wr x) => rbytes_any x l hx wr (hW.belowW o.b) hw
    have h19 := fun wr => check_any x hx wr
    have h20 := fun wr => rcheck_any x hx wr
    have hF : (chkN x = 1 ∧ fileX x l = ⟨#[]⟩) ∨ (chkN x = 0 ∧ (fileX x l).size ≤ 10000 ∧ Em.err (toL (fileX x l)) = 0 ∧ Em.of (toL (fileX x l)) = ⟨l, toL x.d, x.r, x.e⟩) := by
      by_cases hb : badN x.n x.d.size x.r x.e
      · exact .inl ⟨chkN_bad hb, if_pos hb⟩
      · refine .inr ⟨chkN_ok hb, ?_⟩
        have hbE : ¬ Em.bad ⟨l, toL x.d, x.r, x.e⟩ := fun h => hb (by
          unfold Em.bad at h
          unfold badN
          simpa only [hW.1, toL_length] using h)
        have hF : toL (fileX x l) = Em.file ⟨l, toL x.d, x.r, x.e⟩ := by rw [fileX, if_neg hb]; simp [toL]
        have hlen := Em.file_len ⟨l, toL x.d, x.r, x.e⟩
        have hof := Em.of_file (Em.fit_ok hbE hx.e hw) []
        rw [List.append_nil] at hof
        rw [← toL_length, hF, hlen]
        refine ⟨?_, Em.err_file hbE hx.e hw, hof⟩
        unfold badN at hb
        simp only [hW.1, toL_length]
        omega
    have hy : ∀ F : ByteArray, F.size ≤ 10000 → ∀ wr, Calls Try.prog 21 #[.string F] wr _ := fun F h wr => of_any F wr h
    generalize fileX x l = F at *
    generalize hk : chkN x = k at *
    clear hk
    have t1 := Nm.str_yes (rfl : F = F)
    have hFs : F.size ≤ 10000 := by
      rcases hF with ⟨_, hF⟩ | ⟨_, hF, _⟩
      · rw [hF]; exact Nat.zero_le _
      · exact hF
    have hsm := fun y m wr (yok : Xv.Ok y) (hl : Ws wr x.a x.n l) (hm : Ws wr y.a y.n m) => same_any x y l m wr hx yok hl hm
    have hsB : ∀ (y : Xv) (m : List Nat), (⟨m, toL y.d, y.r, y.e⟩ : Em.Ex) = ⟨l, toL x.d, x.r, x.e⟩ → m.length = y.n → sameB x y l m = true := by
      intro y m h hm
      injection h with e1 e2 e3 e4
      have e5 := toL_inj e2
      have e6 := hW.1
      unfold sameB
      rw [e1, e3, e4, e5, ← hm, e1, ← e6]
      simp
    have hWx := fun wr (o : Kx w wr x) => hW.belowW o.b
    obtain ⟨a, n, c, d, r, e⟩ := x
    dsimp only at *
    clear hx hw hW
    go_enter Try.func3, Try.ntmps3
    go_wp2_with fail
    change Calls _ _ _ (w.alloc (Obj.cells (Xv.cs _) 25)) _
    rw [← HV.out]
    clear k0 k1 k2 k3 HV
    refine (hg _).mono ?_
    rintro e w1 ⟨rfl, hx1⟩
    replace st := st.below hx1
    clear hx1 hg
    have st' := st
    obtain ⟨⟨k0, k1, k2, k3⟩, -⟩ := st'
    dsimp only at k0 k1 k2 k3
    go_wp2_with fail
    clear k0 k1 k2 k3
    refine (h17 _ st).mono ?_
    rintro e w2 ⟨rfl, hx1⟩
    replace st := st.below hx1
    clear hx1 h17
    have st' := st
    obtain ⟨⟨k0, k1, k2, k3⟩, -⟩ := st'
    dsimp only at k0 k1 k2 k3
    go_wp2_with fail
    clear k0 k1 k2 k3
    refine (h18 _ st).mono ?_
    rintro e w3 ⟨rfl, hx1⟩
    replace st := st.below hx1
    clear hx1 h18
    go_wp2_with fail
    refine wp_region_held_drew (S := fun w' => Kx w w' ⟨a, n, c, d, r, _⟩) (by kernel_rfl) st.drew (fun hHeld => ?_)
    clear st
    generalize w3.drew = W2 at *
    refine wpAnyH_take (i := 0) (oi := { dst := some 22, op := Op.load 25 (Operand.tmp 1), type := _, pos := _, after := _, guard := _ }) (v := ?_) rfl (by kernel_rfl) (by kernel_rfl) (by kernel_rfl) (fun _ _ _ h => h) (Or.inl ⟨by rfl, ?_⟩) hHeld ?_
    rotate_left
    · intro wq hSw
      obtain ⟨⟨k0, k1, k2, k3⟩, _⟩ := hSw
      go_simp
      rfl
    try simp only [Act.put, List.setIfInBounds_toArray, List.set_cons_zero, List.set_cons_succ]
    refine wpAnyH_take (i := 2) (oi := { dst := some 24, op := Op.load 25 (Operand.tmp 1), type := _, pos := _, after := _, guard := _ }) (v := ?_) rfl (by kernel_rfl) (by kernel_rfl) (by kernel_rfl) (fun _ _ _ h => h) (Or.inl ⟨by rfl, ?_⟩) hHeld ?_
    rotate_left
    · intro wq hSw
      obtain ⟨⟨k0, k1, k2, k3⟩, _⟩ := hSw
      go_simp
      rfl
    try simp only [Act.put, List.setIfInBounds_toArray, List.set_cons_zero, List.set_cons_succ]
    refine wpAnyH_ready (rs := [1]) (by kernel_rfl) (by simp) ?_
    refine AllReadyH.cons (o := { dst := some 23, op := Op.call { callee := Callee.value (Operand.func 19), args := #[Operand.tmp 22], argTypes := #[25] }, type := _, pos := _, after := _, guard := _ }) rfl (fun KK hKK => ?_) AllReadyH.nil
    have hKS := Lib.hid hKK
    clear hKK
    go_simp
    refine (h19 _).mono ?_
    rintro e w1 ⟨rfl, hx⟩
    go_wp2_with fail
    refine hKS.out.out _ _ (hHeld.below hx) (fun hHeld => ?_)
    clear hKS KK hx
    try simp only [Act.put, List.setIfInBounds_toArray, List.set_cons_zero, List.set_cons_succ]
    refine wpAnyH_ready (rs := [3]) (by kernel_rfl) (by simp) ?_
    refine AllReadyH.cons (o := { dst := some 25, op := Op.call { callee := Callee.value (Operand.func 20), args := #[Operand.tmp 24], argTypes := #[25] }, type := _, pos := _, after := _, guard := _ }) rfl (fun KK hKK => ?_) AllReadyH.nil
    have hKS := Lib.hid hKK
    clear hKK
    go_simp
    refine (h20 _).mono ?_
    rintro e w3 ⟨rfl, hx⟩
    go_wp2_with fail
    refine hKS.out.out _ _ (hHeld.below hx) (fun hHeld => ?_)
    clear hKS KK hx
    try simp only [Act.put, List.setIfInBounds_toArray, List.set_cons_zero, List.set_cons_succ]
    refine wpAnyH_take (i := 4) (oi := { dst := some 26, op := Op.binOp BinOp.neq 28 (Operand.tmp 23) (Operand.tmp 25) 28, type := _, pos := _, after := _, guard := _ }) (v := ?_) rfl (by kernel_rfl) (by kernel_rfl) (by kernel_rfl) (fun _ _ _ h => h) (Or.inl ⟨by rfl, ?_⟩) hHeld ?_
    rotate_left
    · intro wq hSw
      go_simp
      rfl
    try simp only [Act.put, List.setIfInBounds_toArray, List.set_cons_zero, List.set_cons_succ]
    refine wpAnyH_take (i := 5) (oi := { dst := some 27, op := Op.move (Operand.tmp 26), type := _, pos := _, after := _, guard := _ }) (v := ?_) rfl (by kernel_rfl) (by kernel_rfl) (by kernel_rfl) (fun _ _ _ h => h) (Or.inl ⟨by rfl, ?_⟩) hHeld ?_
    rotate_left
    · intro wq hSw
      go_simp
      rfl
    try simp only [Act.put, List.setIfInBounds_toArray, List.set_cons_zero, List.set_cons_succ]
    refine wpAnyH_take (i := 6) (oi := { dst := some 28, op := Op.move (Operand.tmp 3), type := _, pos := _, after := _, guard := _ }) (v := ?_) rfl (by kernel_rfl) (by kernel_rfl) (by kernel_rfl) (fun _ _ _ h => h) (Or.inl ⟨by rfl, ?_⟩) hHeld ?_
    rotate_left
    · intro wq hSw
      go_simp
      rfl
    try simp only [Act.put, List.setIfInBounds_toArray, List.set_cons_zero, List.set_cons_succ]
    refine wpAnyH_take (i := 7) (oi := { dst := some 29, op := Op.move (Operand.tmp 5), type := _, pos := _, after := _, guard := _ }) (v := ?_) rfl (by kernel_rfl) (by kernel_rfl) (by kernel_rfl) (fun _ _ _ h => h) (Or.inl ⟨by rfl, ?_⟩) hHeld ?_
    rotate_left
    · intro wq hSw
      go_simp
      rfl
    try simp only [Act.put, List.setIfInBounds_toArray, List.set_cons_zero, List.set_cons_succ]
    refine wpAnyH_take (i := 8) (oi := { dst := some 30, op := Op.binOp BinOp.neq 9 (Operand.tmp 28) (Operand.tmp 29) 9, type := _, pos := _, after := _, guard := _ }) (v := ?_) rfl (by kernel_rfl) (by kernel_rfl) (by kernel_rfl) (fun _ _ _ h => h) (Or.inl ⟨by rfl, ?_⟩) hHeld ?_
    rotate_left
    · intro wq hSw
      go_simp
      rfl
    try simp only [Act.put, List.setIfInBounds_toArray, List.set_cons_zero, List.set_cons_succ]
    refine wpAnyH_take (i := 9) (oi := { dst := some 31, op := Op.pick (Operand.tmp 27) (Operand.const (Value.bool true)) (Operand.tmp 30), type := _, pos := _, after := _, guard := _ }) (v := ?_) rfl (by kernel_rfl) (by kernel_rfl) (by kernel_rfl) (fun _ _ _ h => h) (Or.inl ⟨by rfl, ?_⟩) hHeld ?_
    rotate_left
    · intro wq hSw
      go_simp
      rfl
    try simp only [Act.put, List.setIfInBounds_toArray, List.set_cons_zero, List.set_cons_succ]
    refine wpAnyH_take (i := 10) (oi := { dst := some 32, op := Op.move (Operand.tmp 31), type := _, pos := _, after := _, guard := _ }) (v := ?_) rfl (by kernel_rfl) (by kernel_rfl) (by kernel_rfl) (fun _ _ _ h => h) (Or.inl ⟨by rfl, ?_⟩) hHeld ?_
    rotate_left
    · intro wq hSw
      go_simp
      rfl
    try simp only [Act.put, List.setIfInBounds_toArray, List.set_cons_zero, List.set_cons_succ]
    refine wpAnyH_take (i := 11) (oi := { dst := some 33, op := Op.move (Operand.tmp 4), type := _, pos := _, after := _, guard := _ }) (v := ?_) rfl (by kernel_rfl) (by kernel_rfl) (by kernel_rfl) (fun _ _ _ h => h) (Or.inl ⟨by rfl, ?_⟩) hHeld ?_
    rotate_left
    · intro wq hSw
      go_simp
      rfl
    try simp only [Act.put, List.setIfInBounds_toArray, List.set_cons_zero, List.set_cons_succ]
    refine wpAnyH_take (i := 12) (oi := { dst := some 34, op := Op.move (Operand.tmp 6), type := _, pos := _, after := _, guard := _ }) (v := ?_) rfl (by kernel_rfl) (by kernel_rfl) (by kernel_rfl) (fun _ _ _ h => h) (Or.inl ⟨by rfl, ?_⟩) hHeld ?_
    rotate_left
    · intro wq hSw
      go_simp
      rfl
    try simp only [Act.put, List.setIfInBounds_toArray, List.set_cons_zero, List.set_cons_succ]
    refine wpAnyH_take (i := 13) (oi := { dst := some 35, op := Op.binOp BinOp.neq 28 (Operand.tmp 33) (Operand.tmp 34) 28, type := _, pos := _, after := _, guard := _ }) (v := ?_) rfl (by kernel_rfl) (by kernel_rfl) (by kernel_rfl) (fun _ _ _ h => h) (Or.inl ⟨by rfl, ?_⟩) hHeld ?_
    rotate_left
    · intro wq hSw
      go_simp
      rfl
    try simp only [Act.put, List.setIfInBounds_toArray, List.set_cons_zero, List.set_cons_succ]
    refine wpAnyH_take (i := 14) (oi := { dst := some 36, op := Op.pick (Operand.tmp 32) (Operand.const (Value.bool true)) (Operand.tmp 35), type := _, pos := _, after := _, guard := _ }) (v := ?_) rfl (by kernel_rfl) (by kernel_rfl) (by kernel_rfl) (fun _ _ _ h => h) (Or.inl ⟨by rfl, ?_⟩) hHeld ?_
    rotate_left
    · intro wq hSw
      go_simp
      rfl
    try simp only [Act.put, List.setIfInBounds_toArray, List.set_cons_zero, List.set_cons_succ]
    refine wpAnyH_done (by kernel_rfl) ?_ _
    go_wp2_with fail
    refine (hy F hFs _).mono ?_
    rintro e w7 ⟨⟨y, m, rfl, yok, yW, yWd, h0, h1⟩, hx1⟩
    have st := hHeld.below hx1
    clear hHeld hx1
    have a7 := at_new w7 y 25
    have yW' := yW.below (grow w7 (Obj.cells y.cs 25))
    replace st := st.below (grow w7 (Obj.cells y.cs 25))
    rcases hF with ⟨rfl, hF⟩ | ⟨rfl, _, e0, eo⟩
    · obtain ⟨a1, n1, c1, d1, r1, e1⟩ := y
      clear h0 h1
      generalize (Em.err (toL F) : Int) = E at *
      dsimp only at *
      unfold Xv.cs at *
      dsimp only at *
      go_wp2_with fail
      refine (awake_any _).mono ?_
      rintro e w8 ⟨rfl, hx1⟩
      replace st := st.below hx1
      go_wp2_with fail
      go_ret
      exact ⟨rfl, st.b⟩
    · have hs := hsm y m _ yok (hWx _ st) yW'
      rw [hsB y m ((h0 e0).trans eo) yW.1] at hs
      rw [e0]
      clear h0 h1 eo e0 hsm hsB
      obtain ⟨a1, n1, c1, d1, r1, e1⟩ := y
      dsimp only at *
      unfold Xv.cs at *
      dsimp only at *
      generalize hvv : w7.alloc (Obj.cells #[.slice a1 n1 c1, .string d1, .int .i64 r1, .int .u32 (e1 : Nat)] 25) = v7 at *
      have st' := st
      obtain ⟨⟨k0, k1, k2, k3⟩, -⟩ := st'
      obtain ⟨q0, q1, q2, q3⟩ := a7
      dsimp only at *
      rw [← hvv] at k0 k1 k2 k3 q0 q1 q2 q3
      have HV := Lib.hid hvv
      clear hvv
      go_wp2_with fail
      rw [HV.out]
      refine hs.mono ?_
      rintro e w8 ⟨rfl, hx1⟩
      replace st := st.below hx1
      go_wp2_with fail
      refine (awake_any _).mono ?_
      rintro e w9 ⟨rfl, hx1⟩
      replace st := st.below hx1
      go_wp2_with fail
      go_ret
      exact ⟨rfl, st.b⟩

set_option maxRecDepth 100000 in
theorem lifted (os : Os) (started : os.Started) (H : Type) (enc : TypeId × Value → H) :
    ReturnsInHanded {} Try.checked os 3 .any (Rows.exeBytesSpec.pre6 enc Try.prog Try.f3 Rows.exeBytesRow.domain false) (Rows.exeBytesSpec.post enc Try.prog Try.f3 false true false false) := by
  refine returnsInHanded_of_change (C := Try.checked) own started (by kernel_rfl) Try.func3
    (ChangeSpec.witness6 (enc := enc) (C := Try.checked) false ⟨#[], #[.agg #[.slice none 0 0, .string ByteArray.empty, .int .i64 0, .int .u32 0]], []⟩ 8 (by kernel_rfl) (by kernel_rfl) (by kernel_rfl) (by kernel_rfl)) ?_
  intro W base args ds gs before hval0 hW hcnd _
  have hval : ∀ (j : Nat) t v, Try.f3.params[j]? = some t → args[j]? = some v → Value.okWide Try.prog W .any base t v := hval0
  have hW' := hW
  obtain ⟨p, q, hA0, hV, rfl, hfz, hnd⟩ := hW
  have hA : DataW.TrodAll enc Try.prog W 0 (fun _ => true) true Try.f3.params.toList args.toList ds p := hA0
  rw [Try.params3] at hA hval
  obtain ⟨v0, vs0, d0, ds0, p0, q0, hargs, rfl, rfl, h0, r0⟩ := trodAll_cons hA
  obtain ⟨rfl, rfl, rfl⟩ := trodAll_nil r0
  obtain rfl : args = #[v0] := by cases args; simp_all
  obtain ⟨rfl, rfl⟩ := trodVars_none hV
  obtain ⟨x0, l0, rfl, ok0, ws0, wd0⟩ := okExe (hval 0 25 v0 rfl rfl) h0
  have k0 := h0
  have lt0 : ∀ x ∈ p0, x.block < W.heap.size := by obtain ⟨m, hm⟩ := k0; exact DataW.trod_lt m _ _ _ hm
  clear hA0 hval0
  refine (walk x0 l0 ok0 wd0 W ws0).mono fun e W' ⟨he, bel⟩ => ?_
  subst he
  exact ⟨_, rfl, _, _, _, [], _, [], hW', trodAll_mk1 (shut_bool Try.underlying4 _), (trodAll_cons_mk (Below.trod laidOut (by kernel_rfl) (of_decide_eq_true (by kernel_rfl)) k0 bel lt0) trodAll_mk0), rfl, bel.frame _, fun h => by cases h⟩

theorem over : Rows.exeBytesRow.holds Try.pinned (OpenSpec.ofChange Rows.exeBytesSpec) :=
  OpenClaim.holds_of_wide 3 Try.f3 rfl rfl rfl rfl rfl rfl rfl ⟨rfl, rfl, rfl, rfl, rfl⟩ rfl rfl rfl rfl rfl (by kernel_rfl) Try.func3 (by kernel_rfl)
    (of_decide_eq_true (by kernel_rfl)) (by unfold Func.isWrapper; first | (rw [if_pos (by decide +kernel)]; kernel_rfl) | (rw [if_neg (by decide +kernel)]; exact ⟨rfl, rfl⟩))
    (fun os started H enc _ => lifted os started H enc)

/-- the statement -/
theorem proved : Rows.ExeBytesSaid := over
end Go.Proofs.Ytkbelpkmlmfedaa.exeBytes
