/-
  For every two shares, two secrets and a place ShareBlind answers true: to two shares and any secret there is a third one with which they are joined to it, and another one for another secret; the arguments read as before.
-/
import Derived.Test.YtmnenjgipkopdaaRows
import Derived.Test.YtmnenjgipkopdaaOk
import Derived.WalkKit
import Derived.ProofKit
import Derived.OpenShut
import Derived.ShutString
import Derived.Test.YtmnenjgipkopdaaJc
namespace Go.Proofs.Ytmnenjgipkopdaa.shareBlind
open Go.ChangeShapes Go.WideShapes Go.ChangeAt Go.RowKit
open Go.ChangeMaps (open_string shut_string)
set_option linter.unusedVariables false
set_option linter.unusedSimpArgs false

theorem own : ownKnob Try.prog.godebug = none := by kernel_rfl
theorem zs_bytes (n : Nat) : Gf.Bytes (zs n) := fun x hx => by have := List.eq_of_mem_replicate hx; omega
theorem jis_no {S T U : List Nat} {E : Ending} (h : Sx.ok3 (Gf.nth S 0) (Gf.nth T 0) (Gf.nth U 0) = false) (hj : JIs S T U E) : E = .returned (.tuple #[.agg (vs (zs 32)), .int .i64 1]) := by unfold JIs at hj; rw [if_neg (by rw [h]; simp)] at hj; exact hj
theorem jis_yes {S T U : List Nat} {E : Ending} (h : Sx.ok3 (Gf.nth S 0) (Gf.nth T 0) (Gf.nth U 0) = true) (hj : JIs S T U E) : E = .returned (.tuple #[.agg (vs (Sx.at3 S T U 0)), .int .i64 0]) := by unfold JIs at hj; rw [if_pos h] at hj; exact hj
theorem ldw {ty : TypeId} {n : Nat} (T : AggT ty n) {ops : Array Oper} {rest : List Oper} {o : Oper} {a : Act} {w : World} {Q : Exit → Act → World → Prop} {x : Operand} {b f : Nat} {l : List Nat}
    (hgd : Region.wanted o (yielded ops a.tmps) = true) (ho : o.op = .load ty x) (hx : a.eval x = .pointer (some ⟨b, f, none⟩)) (hg : Rg w b f l) (hl : l.length = n)
    (h : wpList Try.prog ops Q rest (a.put o.dst (.agg (vs l))) w) : wpList Try.prog ops Q (o :: rest) a w := by
  show (if Region.wanted o (yielded ops a.tmps) then o.wp Try.prog a w (wpList Try.prog ops Q rest) Q ∨ (o.asks Try.prog a w ∧ LetsOut Q) else wpList Try.prog ops Q rest (a.put o.dst undef) w)
  rw [if_pos hgd]
  refine .inl ?_
  unfold Oper.wp
  rw [exec_ld T ho hx hg hl]
  exact h
theorem bldw {ops : Array Oper} {rest : List Oper} {o : Oper} {a : Act} {w : World} {Q : Exit → Act → World → Prop} (hgd : Region.wanted o (yielded ops a.tmps) = true) (ho : o.op = .build 23 #[])
    (h : wpList Try.prog ops Q rest (a.put o.dst (.agg (vs (zs 32)))) w) : wpList Try.prog ops Q (o :: rest) a w := by
  show (if Region.wanted o (yielded ops a.tmps) then o.wp Try.prog a w (wpList Try.prog ops Q rest) Q ∨ (o.asks Try.prog a w ∧ LetsOut Q) else wpList Try.prog ops Q rest (a.put o.dst undef) w)
  rw [if_pos hgd]
  refine .inl ?_
  have hb : Try.prog.built 23 [] = some (vs (zs 32)) := by kernel_rfl
  have e : ((#[] : Array (Nat × Operand)).map fun (i, x) => (i, a.eval x)).toList = [] := by simp
  refine wp_build 23 _ ho (by rw [e, hb]; rfl) ?_
  rw [e, hb]
  exact h
theorem nthL_shrs (K M : List Nat) (n i : Nat) (h : i < n) : nthL (Sx.shrs K M n) i = Sx.shr K M (i + 1) := by unfold nthL; rw [Sx.shrs_get _ _ _ _ h]; rfl
theorem share_at {w : World} {A : Option Addr} {K M : List Nat} {a : Nat} (h : Ss w A a (Sx.shrs K M a)) (ha : 0 < a) : ∃ b o, A = some ⟨b, o, none⟩ ∧ ∀ q, q < a → Rg w b (o + q * 33) (Sx.shr K M (q + 1)) := by
  obtain ⟨b, o, rfl, hr⟩ := h.2.2 ha
  exact ⟨b, o, rfl, fun q hq => by
    have := rg_at (n := a) (shrs_33 K M a) hr (i := q) (by rw [Sx.shrs_length]; exact hq)
    rw [nthL_shrs _ _ _ _ hq] at this
    exact this⟩
theorem eqz (p q : Nat) (h : p = q) : (((p : Nat) : Int) == ((q : Nat) : Int)) = true := by simp [h]
theorem eqz' (p q : Nat) (h : p ≠ q) : (((p : Nat) : Int) == ((q : Nat) : Int)) = false := by rw [beq_eq_false_iff_ne]; omega
theorem efH3 {P : Program} {l : List Oper} {Q : Exit → Act → World → Prop} {md : Region.Mode} {S : World → Prop} {i j k : Nat} {oi oj ok : Oper} {fuel : Nat} {listed : Array Bool} {a : Act} {w : World} (hi : l[i]? = some oi) (hj : l[j]? = some oj) (hk : l[k]? = some ok) (hr : Region.ready md l.toArray listed = [i, j, k])
    (hwi : Region.wanted oi (yielded l.toArray a.tmps) = true) (hwj : Region.wanted oj (yielded l.toArray a.tmps) = true) (hwk : Region.wanted ok (yielded l.toArray a.tmps) = true)
    (h1 : ∀ K : Act → World → Prop, Shut (∀ a w, S w → (S w → wpAnyH P md l.toArray Q S fuel (listed.setIfInBounds i true) a w) → K a w) → Oper.wp P oi a w K Q)
    (h2 : ∀ K : Act → World → Prop, Shut (∀ a w, S w → (S w → wpAnyH P md l.toArray Q S fuel (listed.setIfInBounds j true) a w) → K a w) → Oper.wp P oj a w K Q)
    (h3 : ∀ K : Act → World → Prop, Shut (∀ a w, S w → (S w → wpAnyH P md l.toArray Q S fuel (listed.setIfInBounds k true) a w) → K a w) → Oper.wp P ok a w K Q) : wpAnyH P md l.toArray Q S (fuel + 1) listed a w :=
  wpAnyH_ready hr (by simp) (AllReadyH.cons (by rw [List.getElem?_toArray]; exact hi) (fun K hK => by rw [if_pos hwi]; exact h1 K hK) (AllReadyH.cons (by rw [List.getElem?_toArray]; exact hj) (fun K hK => by rw [if_pos hwj]; exact h2 K hK)
    (AllReadyH.cons (by rw [List.getElem?_toArray]; exact hk) (fun K hK => by rw [if_pos hwk]; exact h3 K hK) AllReadyH.nil)))
theorem bsl3 {ops : Array Oper} {rest : List Oper} {o : Oper} {a : Act} {w : World} {Q : Exit → Act → World → Prop} {x y z : Operand} {S T U F : List Nat} (hS : S.length = 33) (hT : T.length = 33) (hU : U.length = 33) (hF : F = [S, T, U].flatten) (hgd : o.guard = none) (ho : o.op = .buildSlice 25 3 #[(0, x), (1, y), (2, z)])
    (hx : a.eval x = .agg (vs S)) (hy : a.eval y = .agg (vs T)) (hz : a.eval z = .agg (vs U))
    (h : wpList Try.prog ops Q rest (a.put o.dst (.slice (some ⟨w.heap.size, 0, none⟩) 3 3)) (w.alloc (.cells (vs F) 34))) : wpList Try.prog ops Q (o :: rest) a w := by
  subst hF
  exact bsl [S, T, U] (fun s hs => by simp at hs; rcases hs with rfl | rfl | rfl <;> assumption) (by simp) (by simp) hgd _ ho rfl (parts3 hx hy hz) h
theorem late {G : Prop} {F : Nat → Nat → World → Prop} (P : Nat → Nat → World → Prop) (main : (∀ a b w, P a b w → F a b w) → G) (rest : ∀ a b w, P a b w → F a b w) : G := main rest
theorem eqn (p : Nat) (h : p = 0) : (((p : Nat) : Int) == 0) = true := by simp [h]
theorem eqn' (p : Nat) (h : p ≠ 0) : (((p : Nat) : Int) == 0) = false := by rw [beq_eq_false_iff_ne]; omega
set_option maxRecDepth 100000 in
set_option maxHeartbeats 8000000 in
theorem walk (A B K O : List Nat) (x : Nat) (bA : Gf.Bytes A) (lA : A.length = 33) (bB : Gf.Bytes B) (lB : B.length = 33) (hK : Gf.Bytes K) (lK : K.length = 32) (hO : Gf.Bytes O) (lO : O.length = 32) (hx : x < 256) (W : World) :
    Calls Try.prog 6 #[.agg (vs A), .agg (vs B), .agg (vs K), .agg (vs O), .int .u8 (x : Int)] W fun e w' => e = .returned (.bool true) ∧ Below W.heap.size W w' := by
  have HB := Lib.hid (And.intro bA (And.intro bB (And.intro hK hO)))
  have z1 : W.heap.size + 1 = (W.alloc (Obj.cells (vs A) 34)).heap.size := sz1 _ _
  have z2 : W.heap.size + 1 + 1 = ((W.alloc (Obj.cells (vs A) 34)).alloc (Obj.cells (vs B) 34)).heap.size := by rw [z1]; exact sz1 _ _
  have z3 : W.heap.size + 1 + 1 + 1 = (((W.alloc (Obj.cells (vs A) 34)).alloc (Obj.cells (vs B) 34)).alloc (Obj.cells (vs K) 23)).heap.size := by rw [z2]; exact sz1 _ _
  have o0 := (((Own.new W 34 (vs A)).alloc (Obj.cells (vs B) 34)).alloc (Obj.cells (vs K) 23)).alloc (Obj.cells (vs O) 23)
  have o1 := ((Own.new' (W.alloc (Obj.cells (vs A) 34)) 34 (vs B) z1).alloc (Obj.cells (vs K) 23)).alloc (Obj.cells (vs O) 23)
  have o2 := (Own.new' ((W.alloc (Obj.cells (vs A) 34)).alloc (Obj.cells (vs B) 34)) 23 (vs K) z2).alloc (Obj.cells (vs O) 23)
  have o3 := Own.new' (((W.alloc (Obj.cells (vs A) 34)).alloc (Obj.cells (vs B) 34)).alloc (Obj.cells (vs K) 23)) 23 (vs O) z3
  have bW := ((((Below.refl W.heap.size W).alloc (Nat.le_refl _) (Obj.cells (vs A) 34)).alloc (by omega) (Obj.cells (vs B) 34)).alloc (by omega) (Obj.cells (vs K) 23)).alloc (by omega) (Obj.cells (vs O) 23)
  have hal := alive_any ((((W.alloc (Obj.cells (vs A) 34)).alloc (Obj.cells (vs B) 34)).alloc (Obj.cells (vs K) 23)).alloc (Obj.cells (vs O) 23))
  obtain ⟨p, hp⟩ : ∃ p, p = Gf.nth A 0 := ⟨_, rfl⟩
  obtain ⟨q, hq⟩ : ∃ q, q = Gf.nth B 0 := ⟨_, rfl⟩
  clear z1 z2 z3 bA bB hK hO
  by_cases n0 : p = 0
  · have t0 := eqn p n0
    clear n0
    go_enter Try.func6, Try.ntmps6
    go_wp2_with fail
    refine hal.mono ?_
    rintro e w1 ⟨rfl, hb⟩
    replace bW := bW.trans (hb.mono bW.size)
    have r0 := (o0.below hb).rg
    have r1 := (o1.below hb).rg
    have c0 := (o0.below hb).cellb (i := 0) (by omega)
    have c1 := (o1.below hb).cellb (i := 0) (by omega)
    have r2 := (o2.below hb).rg
    have r3 := (o3.below hb).rg
    rw [← hp] at c0
    rw [← hq] at c1
    have HPQ := Lib.hid (And.intro hp hq)
    clear o0 o1 o2 o3 hal hb hp hq
    go_wp2_with fail
    go_ret
    exact ⟨rfl, bW⟩
  · by_cases n1 : q = 0
    · have t0 := eqn' p n0
      have t1 := eqn q n1
      clear n0 n1
      go_enter Try.func6, Try.ntmps6
      go_wp2_with fail
      refine hal.mono ?_
      rintro e w1 ⟨rfl, hb⟩
      replace bW := bW.trans (hb.mono bW.size)
      have r0 := (o0.below hb).rg
      have r1 := (o1.below hb).rg
      have c0 := (o0.below hb).cellb (i := 0) (by omega)
      have c1 := (o1.below hb).cellb (i := 0) (by omega)
      have r2 := (o2.below hb).rg
      have r3 := (o3.below hb).rg
      rw [← hp] at c0
      rw [← hq] at c1
      have HPQ := Lib.hid (And.intro hp hq)
      clear o0 o1 o2 o3 hal hb hp hq
      go_wp2_with fail
      go_ret
      exact ⟨rfl, bW⟩
    · by_cases n2 : p = q
      · have t0 := eqn' p n0
        have t1 := eqn' q n1
        have t2 := eqz p q n2
        clear n0 n1 n2
        go_enter Try.func6, Try.ntmps6
        go_wp2_with fail
        refine hal.mono ?_
        rintro e w1 ⟨rfl, hb⟩
        replace bW := bW.trans (hb.mono bW.size)
        have r0 := (o0.below hb).rg
        have r1 := (o1.below hb).rg
        have c0 := (o0.below hb).cellb (i := 0) (by omega)
        have c1 := (o1.below hb).cellb (i := 0) (by omega)
        have r2 := (o2.below hb).rg
        have r3 := (o3.below hb).rg
        rw [← hp] at c0
        rw [← hq] at c1
        have HPQ := Lib.hid (And.intro hp hq)
        clear o0 o1 o2 o3 hal hb hp hq
        go_wp2_with fail
        go_ret
        exact ⟨rfl, bW⟩
      · by_cases n3 : x = 0
        · have t0 := eqn' p n0
          have t1 := eqn' q n1
          have t2 := eqz' p q n2
          have t3 := eqn x n3
          clear n0 n1 n2 n3
          go_enter Try.func6, Try.ntmps6
          go_wp2_with fail
          refine hal.mono ?_
          rintro e w1 ⟨rfl, hb⟩
          replace bW := bW.trans (hb.mono bW.size)
          have r0 := (o0.below hb).rg
          have r1 := (o1.below hb).rg
          have c0 := (o0.below hb).cellb (i := 0) (by omega)
          have c1 := (o1.below hb).cellb (i := 0) (by omega)
          have r2 := (o2.below hb).rg
          have r3 := (o3.below hb).rg
          rw [← hp] at c0
          rw [← hq] at c1
          have HPQ := Lib.hid (And.intro hp hq)
          clear o0 o1 o2 o3 hal hb hp hq
          go_wp2_with fail
          go_ret
          exact ⟨rfl, bW⟩
        · by_cases n4 : x = p
          · have t0 := eqn' p n0
            have t1 := eqn' q n1
            have t2 := eqz' p q n2
            have t3 := eqn' x n3
            have t4 := eqz x p n4
            clear n0 n1 n2 n3 n4
            go_enter Try.func6, Try.ntmps6
            go_wp2_with fail
            refine hal.mono ?_
            rintro e w1 ⟨rfl, hb⟩
            replace bW := bW.trans (hb.mono bW.size)
            have r0 := (o0.below hb).rg
            have r1 := (o1.below hb).rg
            have c0 := (o0.below hb).cellb (i := 0) (by omega)
            have c1 := (o1.below hb).cellb (i := 0) (by omega)
            have r2 := (o2.below hb).rg
            have r3 := (o3.below hb).rg
            rw [← hp] at c0
            rw [← hq] at c1
            have HPQ := Lib.hid (And.intro hp hq)
            clear o0 o1 o2 o3 hal hb hp hq
            go_wp2_with fail
            go_ret
            exact ⟨rfl, bW⟩
          · by_cases n5 : x = q
            · have t0 := eqn' p n0
              have t1 := eqn' q n1
              have t2 := eqz' p q n2
              have t3 := eqn' x n3
              have t4 := eqz' x p n4
              have t5 := eqz x q n5
              clear n0 n1 n2 n3 n4 n5
              go_enter Try.func6, Try.ntmps6
              go_wp2_with fail
              refine hal.mono ?_
              rintro e w1 ⟨rfl, hb⟩
              replace bW := bW.trans (hb.mono bW.size)
              have r0 := (o0.below hb).rg
              have r1 := (o1.below hb).rg
              have c0 := (o0.below hb).cellb (i := 0) (by omega)
              have c1 := (o1.below hb).cellb (i := 0) (by omega)
              have r2 := (o2.below hb).rg
              have r3 := (o3.below hb).rg
              rw [← hp] at c0
              rw [← hq] at c1
              have HPQ := Lib.hid (And.intro hp hq)
              clear o0 o1 o2 o3 hal hb hp hq
              go_wp2_with fail
              go_ret
              exact ⟨rfl, bW⟩
            · have t0 := eqn' p n0
              have t1 := eqn' q n1
              have t2 := eqz' p q n2
              have t3 := eqn' x n3
              have t4 := eqz' x p n4
              have t5 := eqz' x q n5
              go_enter Try.func6, Try.ntmps6
              go_wp2_with fail
              refine hal.mono ?_
              rintro e w1 ⟨rfl, hb⟩
              replace bW := bW.trans (hb.mono bW.size)
              have r0 := (o0.below hb).rg
              have r1 := (o1.below hb).rg
              have c0 := (o0.below hb).cellb (i := 0) (by omega)
              have c1 := (o1.below hb).cellb (i := 0) (by omega)
              have r2 := (o2.below hb).rg
              have r3 := (o3.below hb).rg
              rw [← hp] at c0
              rw [← hq] at c1
              have HPQ := Lib.hid (And.intro hp hq)
              clear o0 o1 o2 o3 hal hb hp hq
              go_wp2_with fail
              have e0 := HPQ.out.1
              have e1 := HPQ.out.2
              have hp0 : Gf.nth A 0 ≠ 0 := by rw [← e0]; exact n0
              have hq0 : Gf.nth B 0 ≠ 0 := by rw [← e1]; exact n1
              have hpq : Gf.nth A 0 ≠ Gf.nth B 0 := by rw [← e0, ← e1]; exact n2
              have hxp : x ≠ Gf.nth A 0 := by rw [← e0]; exact n4
              have hxq : x ≠ Gf.nth B 0 := by rw [← e1]; exact n5
              have hC := fun w => third_any K A B x w hx HB.out.2.2.1 lK HB.out.1 lA HB.out.2.1 lB hp0 hq0 hpq
              have hD := fun w => third_any O A B x w hx HB.out.2.2.2 lO HB.out.1 lA HB.out.2.1 lB hp0 hq0 hpq
              have jC := Sx.third_joins HB.out.2.2.1 lK HB.out.1 HB.out.2.1 hx hp0 hq0 hpq hxp hxq
              have jD := Sx.third_joins HB.out.2.2.2 lO HB.out.1 HB.out.2.1 hx hp0 hq0 hpq hxp hxq
              have lC := Sx.third_length K A B x
              have lD := Sx.third_length O A B x
              have bC := Sx.third_bytes HB.out.2.2.1 HB.out.1 HB.out.2.1 hx
              have bD := Sx.third_bytes HB.out.2.2.2 HB.out.1 HB.out.2.1 hx
              have kC : Sx.ok3 (Gf.nth A 0) (Gf.nth B 0) (Gf.nth (Sx.third K A B x) 0) = true := by rw [Sx.third_head, Sx.ok3_iff]; exact ⟨hp0, hq0, n3, hpq, Ne.symm hxp, Ne.symm hxq⟩
              have kD : Sx.ok3 (Gf.nth A 0) (Gf.nth B 0) (Gf.nth (Sx.third O A B x) 0) = true := by rw [Sx.third_head, Sx.ok3_iff]; exact ⟨hp0, hq0, n3, hpq, Ne.symm hxp, Ne.symm hxq⟩
              have hcd : decide (Sx.third K A B x = Sx.third O A B x) = decide (K = O) := by
                rw [decide_eq_decide]
                exact ⟨fun h => by rw [← jC, ← jD, h], fun h => by rw [h]⟩
              have sC : ∀ P w, Ss w P 3 [A, B, Sx.third K A B x] → Calls Try.prog 14 #[.slice P 3 3] w fun e w' => e = .returned (.tuple #[.agg (vs K), .int .i64 0]) ∧ Below w.heap.size w w' := fun P w h => (sjoin3 P 3 _ _ _ w h).mono fun e w' hh => ⟨by rw [jis_yes kC hh.1, jC], hh.2⟩
              have sD : ∀ P w, Ss w P 3 [A, B, Sx.third O A B x] → Calls Try.prog 14 #[.slice P 3 3] w fun e w' => e = .returned (.tuple #[.agg (vs O), .int .i64 0]) ∧ Below w.heap.size w w' := fun P w h => (sjoin3 P 3 _ _ _ w h).mono fun e w' hh => ⟨by rw [jis_yes kD hh.1, jD], hh.2⟩
              generalize Sx.third K A B x = C at *
              generalize Sx.third O A B x = D at *
              have HS := Lib.hid (And.intro sC (And.intro sD (And.intro hcd (And.intro bC bD))))
              clear sC sD hcd bC bD jC jD kC kD hp0 hq0 hpq hxp hxq e0 e1 n0 n1 n2 n3 n4 n5 c0 c1
              generalize hg : W.heap.size = g at *
              have HG := Lib.hid hg
              clear hg
              apply late (fun (gX gY : Nat) (wF : World) => Own wF gX 34 (vs C) ∧ Own wF gY 34 (vs D) ∧ Rg wF g 0 A ∧ Rg wF (g + 1) 0 B ∧ Rg wF (g + 1 + 1) 0 K ∧ Rg wF (g + 1 + 1 + 1) 0 O ∧ Below g W wF)
              · intro rest
                replace r0 := r0.drew
                replace r1 := r1.drew
                replace r2 := r2.drew
                replace r3 := r3.drew
                replace bW := bW.drew
                refine wp_region_held_drew (S := fun w' => Below w1.drew.heap.size w1.drew w') (by kernel_rfl) (Below.refl _ _) (fun hH => ?_)
                generalize w1.drew = w0 at *
                refine tkH (i := 0) rfl (by kernel_rfl) (by kernel_rfl) (by kernel_rfl) (fun _ _ _ h => h) hH (yld t23 (by rfl) rfl rfl K r2 lK) ?_
                try simp only [Act.put, List.setIfInBounds_toArray, List.set_cons_zero, List.set_cons_succ]
                refine tkH (i := 1) rfl (by kernel_rfl) (by kernel_rfl) (by kernel_rfl) (fun _ _ _ h => h) hH (yld t34 (by rfl) rfl rfl A r0 lA) ?_
                try simp only [Act.put, List.setIfInBounds_toArray, List.set_cons_zero, List.set_cons_succ]
                refine tkH (i := 2) rfl (by kernel_rfl) (by kernel_rfl) (by kernel_rfl) (fun _ _ _ h => h) hH (yld t34 (by rfl) rfl rfl B r1 lB) ?_
                try simp only [Act.put, List.setIfInBounds_toArray, List.set_cons_zero, List.set_cons_succ]
                refine tkH (i := 5) rfl (by kernel_rfl) (by kernel_rfl) (by kernel_rfl) (fun _ _ _ h => h) hH (yld t23 (by rfl) rfl rfl O r3 lO) ?_
                try simp only [Act.put, List.setIfInBounds_toArray, List.set_cons_zero, List.set_cons_succ]
                refine tkH (i := 6) rfl (by kernel_rfl) (by kernel_rfl) (by kernel_rfl) (fun _ _ _ h => h) hH (yld t34 (by rfl) rfl rfl A r0 lA) ?_
                try simp only [Act.put, List.setIfInBounds_toArray, List.set_cons_zero, List.set_cons_succ]
                refine tkH (i := 7) rfl (by kernel_rfl) (by kernel_rfl) (by kernel_rfl) (fun _ _ _ h => h) hH (yld t34 (by rfl) rfl rfl B r1 lB) ?_
                try simp only [Act.put, List.setIfInBounds_toArray, List.set_cons_zero, List.set_cons_succ]
                refine tkH (v := ?_) (i := 3) rfl (by kernel_rfl) (by kernel_rfl) (by kernel_rfl) (fun _ _ _ h => h) hH (Or.inl ⟨by rfl, ?_⟩) ?_
                rotate_left
                · intro wq hq
                  go_simp
                  try rfl
                try simp only [Act.put, List.setIfInBounds_toArray, List.set_cons_zero, List.set_cons_succ]
                refine tkH (v := ?_) (i := 8) rfl (by kernel_rfl) (by kernel_rfl) (by kernel_rfl) (fun _ _ _ h => h) hH (Or.inl ⟨by rfl, ?_⟩) ?_
                rotate_left
                · intro wq hq
                  go_simp
                  try rfl
                try simp only [Act.put, List.setIfInBounds_toArray, List.set_cons_zero, List.set_cons_succ]
                refine efH3 (i := 4) (j := 10) (k := 11) rfl rfl rfl (by kernel_rfl) (by rfl) (by rfl) (by rfl) (fun KK hKK => ?_) (fun KK hKK => ?_) (fun KK hKK => ?_)
                · go_simp
                  refine (hC _).mono ?_
                  rintro e v0 ⟨rfl, hx⟩
                  have hH' := hH.trans (hx.mono hH.size)
                  go_wp2_with fail
                  refine hKK.out _ _ hH' (fun hH => ?_)
                  clear hKK KK hH' hx
                  try simp only [Act.put, List.setIfInBounds_toArray, List.set_cons_zero, List.set_cons_succ]
                  refine efH3 (i := 9) (j := 10) (k := 11) rfl rfl rfl (by kernel_rfl) (by rfl) (by rfl) (by rfl) (fun KK hKK => ?_) (fun KK hKK => ?_) (fun KK hKK => ?_)
                  · go_simp
                    refine (hD _).mono ?_
                    rintro e v1 ⟨rfl, hx⟩
                    have hH' := hH.trans (hx.mono hH.size)
                    go_wp2_with fail
                    refine hKK.out _ _ hH' (fun hH => ?_)
                    clear hKK KK hH' hx
                    try simp only [Act.put, List.setIfInBounds_toArray, List.set_cons_zero, List.set_cons_succ]
                    refine efH2 (i := 10) (j := 11) rfl rfl (by kernel_rfl) (by rfl) (by rfl) (fun KK hKK => ?_) (fun KK hKK => ?_)
                    · refine wp_of_exec (exec_new z34 rfl v1) ?_
                      have hleX := hH.size
                      refine hKK.out _ _ (hH.alloc hH.size _) (fun hH => ?_)
                      clear hKK KK
                      try simp only [Act.put, List.setIfInBounds_toArray, List.set_cons_zero, List.set_cons_succ]
                      have oX := Own.new v1 34 (vs (zs 33))
                      generalize v1.alloc (Obj.cells (vs (zs 33)) 34) = v2 at *
                      refine efH (i := 11) rfl (by kernel_rfl) (by rfl) (fun KK hKK => ?_)
                      refine wp_of_exec (exec_new z34 rfl v2) ?_
                      have hleY := hH.size
                      refine hKK.out _ _ (hH.alloc hH.size _) (fun hH => ?_)
                      clear hKK KK
                      try simp only [Act.put, List.setIfInBounds_toArray, List.set_cons_zero, List.set_cons_succ]
                      have hxy := oX.lt
                      replace oX := oX.alloc (Obj.cells (vs (zs 33)) 34)
                      have oY := Own.new v2 34 (vs (zs 33))
                      generalize v2.alloc (Obj.cells (vs (zs 33)) 34) = v3 at *
                      refine efH (i := 12) rfl (by kernel_rfl) (by rfl) (fun KK hKK => ?_)
                      refine wp_store_row 34 _ _ rfl v1.heap.size (vs C) rfl rfl 34 (vs (zs 33)) oX (by rw [t34.siz, vs_size, lC]) (by rw [vs_size, vs_size, zs_length, lC]) (vs_one _) ?_
                      refine hKK.out _ _ (below_row hH hleX _) (fun hH => ?_)
                      clear hKK KK
                      replace oX := oX.row (vs C)
                      replace oY := oY.rowOther v1.heap.size (vs C) (by omega)
                      generalize v3.setRow v1.heap.size (vs C) = v4 at *
                      try simp only [Act.put, List.setIfInBounds_toArray, List.set_cons_zero, List.set_cons_succ]
                      refine efH (i := 13) rfl (by kernel_rfl) (by rfl) (fun KK hKK => ?_)
                      refine wp_store_row 34 _ _ rfl v2.heap.size (vs D) rfl rfl 34 (vs (zs 33)) oY (by rw [t34.siz, vs_size, lD]) (by rw [vs_size, vs_size, zs_length, lD]) (vs_one _) ?_
                      refine hKK.out _ _ (below_row hH hleY _) (fun hH => ?_)
                      clear hKK KK
                      replace oY := oY.row (vs D)
                      replace oX := oX.rowOther v2.heap.size (vs D) (by omega)
                      generalize v4.setRow v2.heap.size (vs D) = v5 at *
                      try simp only [Act.put, List.setIfInBounds_toArray, List.set_cons_zero, List.set_cons_succ]
                      refine wpAnyH_done (by kernel_rfl) ?_ _
                      try simp only [Act.put, List.getElem_toArray, List.getElem_cons_zero, List.getElem_cons_succ, List.setIfInBounds_toArray, List.set_cons_zero, List.set_cons_succ]
                      replace bW := bW.trans (hH.mono (by have := bW.size; have := HG.out; omega))
                      replace r0 := r0.below hH
                      replace r1 := r1.below hH
                      replace r2 := r2.below hH
                      replace r3 := r3.below hH
                      clear hH hleX hleY hxy
                      generalize v1.heap.size = gX at oX ⊢
                      generalize v2.heap.size = gY at oY ⊢
                      exact rest gX gY v5 ⟨oX, oY, r0, r1, r2, r3, bW⟩
                    · refine wp_of_exec (exec_new z34 rfl v1) ?_
                      have hleY := hH.size
                      refine hKK.out _ _ (hH.alloc hH.size _) (fun hH => ?_)
                      clear hKK KK
                      try simp only [Act.put, List.setIfInBounds_toArray, List.set_cons_zero, List.set_cons_succ]
                      have oY := Own.new v1 34 (vs (zs 33))
                      generalize v1.alloc (Obj.cells (vs (zs 33)) 34) = v6 at *
                      refine efH (i := 10) rfl (by kernel_rfl) (by rfl) (fun KK hKK => ?_)
                      refine wp_of_exec (exec_new z34 rfl v6) ?_
                      have hleX := hH.size
                      refine hKK.out _ _ (hH.alloc hH.size _) (fun hH => ?_)
                      clear hKK KK
                      try simp only [Act.put, List.setIfInBounds_toArray, List.set_cons_zero, List.set_cons_succ]
                      have hxy := oY.lt
                      replace oY := oY.alloc (Obj.cells (vs (zs 33)) 34)
                      have oX := Own.new v6 34 (vs (zs 33))
                      generalize v6.alloc (Obj.cells (vs (zs 33)) 34) = v7 at *
                      refine efH (i := 12) rfl (by kernel_rfl) (by rfl) (fun KK hKK => ?_)
                      refine wp_store_row 34 _ _ rfl v6.heap.size (vs C) rfl rfl 34 (vs (zs 33)) oX (by rw [t34.siz, vs_size, lC]) (by rw [vs_size, vs_size, zs_length, lC]) (vs_one _) ?_
                      refine hKK.out _ _ (below_row hH hleX _) (fun hH => ?_)
                      clear hKK KK
                      replace oX := oX.row (vs C)
                      replace oY := oY.rowOther v6.heap.size (vs C) (by omega)
                      generalize v7.setRow v6.heap.size (vs C) = v8 at *
                      try simp only [Act.put, List.setIfInBounds_toArray, List.set_cons_zero, List.set_cons_succ]
                      refine efH (i := 13) rfl (by kernel_rfl) (by rfl) (fun KK hKK => ?_)
                      refine wp_store_row 34 _ _ rfl v1.heap.size (vs D) rfl rfl 34 (vs (zs 33)) oY (by rw [t34.siz, vs_size, lD]) (by rw [vs_size, vs_size, zs_length, lD]) (vs_one _) ?_
                      refine hKK.out _ _ (below_row hH hleY _) (fun hH => ?_)
                      clear hKK KK
                      replace oY := oY.row (vs D)
                      replace oX := oX.rowOther v1.heap.size (vs D) (by omega)
                      generalize v8.setRow v1.heap.size (vs D) = v9 at *
                      try simp only [Act.put, List.setIfInBounds_toArray, List.set_cons_zero, List.set_cons_succ]
                      refine wpAnyH_done (by kernel_rfl) ?_ _
                      try simp only [Act.put, List.getElem_toArray, List.getElem_cons_zero, List.getElem_cons_succ, List.setIfInBounds_toArray, List.set_cons_zero, List.set_cons_succ]
                      replace bW := bW.trans (hH.mono (by have := bW.size; have := HG.out; omega))
                      replace r0 := r0.below hH
                      replace r1 := r1.below hH
                      replace r2 := r2.below hH
                      replace r3 := r3.below hH
                      clear hH hleX hleY hxy
                      generalize v6.heap.size = gX at oX ⊢
                      generalize v1.heap.size = gY at oY ⊢
                      exact rest gX gY v9 ⟨oX, oY, r0, r1, r2, r3, bW⟩
                  · refine wp_of_exec (exec_new z34 rfl v0) ?_
                    have hleX := hH.size
                    refine hKK.out _ _ (hH.alloc hH.size _) (fun hH => ?_)
                    clear hKK KK
                    try simp only [Act.put, List.setIfInBounds_toArray, List.set_cons_zero, List.set_cons_succ]
                    have oX := Own.new v0 34 (vs (zs 33))
                    generalize v0.alloc (Obj.cells (vs (zs 33)) 34) = v10 at *
                    refine efH2 (i := 9) (j := 11) rfl rfl (by kernel_rfl) (by rfl) (by rfl) (fun KK hKK => ?_) (fun KK hKK => ?_)
                    · go_simp
                      refine (hD _).mono ?_
                      rintro e v11 ⟨rfl, hx⟩
                      have hH' := hH.trans (hx.mono hH.size)
                      go_wp2_with fail
                      refine hKK.out _ _ hH' (fun hH => ?_)
                      replace oX := oX.below hx
                      clear hKK KK hH' hx
                      try simp only [Act.put, List.setIfInBounds_toArray, List.set_cons_zero, List.set_cons_succ]
                      refine efH (i := 11) rfl (by kernel_rfl) (by rfl) (fun KK hKK => ?_)
                      refine wp_of_exec (exec_new z34 rfl v11) ?_
                      have hleY := hH.size
                      refine hKK.out _ _ (hH.alloc hH.size _) (fun hH => ?_)
                      clear hKK KK
                      try simp only [Act.put, List.setIfInBounds_toArray, List.set_cons_zero, List.set_cons_succ]
                      have hxy := oX.lt
                      replace oX := oX.alloc (Obj.cells (vs (zs 33)) 34)
                      have oY := Own.new v11 34 (vs (zs 33))
                      generalize v11.alloc (Obj.cells (vs (zs 33)) 34) = v12 at *
                      refine efH (i := 12) rfl (by kernel_rfl) (by rfl) (fun KK hKK => ?_)
                      refine wp_store_row 34 _ _ rfl v0.heap.size (vs C) rfl rfl 34 (vs (zs 33)) oX (by rw [t34.siz, vs_size, lC]) (by rw [vs_size, vs_size, zs_length, lC]) (vs_one _) ?_
                      refine hKK.out _ _ (below_row hH hleX _) (fun hH => ?_)
                      clear hKK KK
                      replace oX := oX.row (vs C)
                      replace oY := oY.rowOther v0.heap.size (vs C) (by omega)
                      generalize v12.setRow v0.heap.size (vs C) = v13 at *
                      try simp only [Act.put, List.setIfInBounds_toArray, List.set_cons_zero, List.set_cons_succ]
                      refine efH (i := 13) rfl (by kernel_rfl) (by rfl) (fun KK hKK => ?_)
                      refine wp_store_row 34 _ _ rfl v11.heap.size (vs D) rfl rfl 34 (vs (zs 33)) oY (by rw [t34.siz, vs_size, lD]) (by rw [vs_size, vs_size, zs_length, lD]) (vs_one _) ?_
                      refine hKK.out _ _ (below_row hH hleY _) (fun hH => ?_)
                      clear hKK KK
                      replace oY := oY.row (vs D)
                      replace oX := oX.rowOther v11.heap.size (vs D) (by omega)
                      generalize v13.setRow v11.heap.size (vs D) = v14 at *
                      try simp only [Act.put, List.setIfInBounds_toArray, List.set_cons_zero, List.set_cons_succ]
                      refine wpAnyH_done (by kernel_rfl) ?_ _
                      try simp only [Act.put, List.getElem_toArray, List.getElem_cons_zero, List.getElem_cons_succ, List.setIfInBounds_toArray, List.set_cons_zero, List.set_cons_succ]
                      replace bW := bW.trans (hH.mono (by have := bW.size; have := HG.out; omega))
                      replace r0 := r0.below hH
                      replace r1 := r1.below hH
                      replace r2 := r2.below hH
                      replace r3 := r3.below hH
                      clear hH hleX hleY hxy
                      generalize v0.heap.size = gX at oX ⊢
                      generalize v11.heap.size = gY at oY ⊢
                      exact rest gX gY v14 ⟨oX, oY, r0, r1, r2, r3, bW⟩
                    · refine wp_of_exec (exec_new z34 rfl v10) ?_
                      have hleY := hH.size
                      refine hKK.out _ _ (hH.alloc hH.size _) (fun hH => ?_)
                      clear hKK KK
                      try simp only [Act.put, List.setIfInBounds_toArray, List.set_cons_zero, List.set_cons_succ]
                      have hxy := oX.lt
                      replace oX := oX.alloc (Obj.cells (vs (zs 33)) 34)
                      have oY := Own.new v10 34 (vs (zs 33))
                      generalize v10.alloc (Obj.cells (vs (zs 33)) 34) = v15 at *
                      refine efH (i := 9) rfl (by kernel_rfl) (by rfl) (fun KK hKK => ?_)
                      go_simp
                      refine (hD _).mono ?_
                      rintro e v16 ⟨rfl, hx⟩
                      have hH' := hH.trans (hx.mono hH.size)
                      go_wp2_with fail
                      refine hKK.out _ _ hH' (fun hH => ?_)
                      replace oX := oX.below hx
                      replace oY := oY.below hx
                      clear hKK KK hH' hx
                      try simp only [Act.put, List.setIfInBounds_toArray, List.set_cons_zero, List.set_cons_succ]
                      refine efH (i := 12) rfl (by kernel_rfl) (by rfl) (fun KK hKK => ?_)
                      refine wp_store_row 34 _ _ rfl v0.heap.size (vs C) rfl rfl 34 (vs (zs 33)) oX (by rw [t34.siz, vs_size, lC]) (by rw [vs_size, vs_size, zs_length, lC]) (vs_one _) ?_
                      refine hKK.out _ _ (below_row hH hleX _) (fun hH => ?_)
                      clear hKK KK
                      replace oX := oX.row (vs C)
                      replace oY := oY.rowOther v0.heap.size (vs C) (by omega)
                      generalize v16.setRow v0.heap.size (vs C) = v17 at *
                      try simp only [Act.put, List.setIfInBounds_toArray, List.set_cons_zero, List.set_cons_succ]
                      refine efH (i := 13) rfl (by kernel_rfl) (by rfl) (fun KK hKK => ?_)
                      refine wp_store_row 34 _ _ rfl v10.heap.size (vs D) rfl rfl 34 (vs (zs 33)) oY (by rw [t34.siz, vs_size, lD]) (by rw [vs_size, vs_size, zs_length, lD]) (vs_one _) ?_
                      refine hKK.out _ _ (below_row hH hleY _) (fun hH => ?_)
                      clear hKK KK
                      replace oY := oY.row (vs D)
                      replace oX := oX.rowOther v10.heap.size (vs D) (by omega)
                      generalize v17.setRow v10.heap.size (vs D) = v18 at *
                      try simp only [Act.put, List.setIfInBounds_toArray, List.set_cons_zero, List.set_cons_succ]
                      refine wpAnyH_done (by kernel_rfl) ?_ _
                      try simp only [Act.put, List.getElem_toArray, List.getElem_cons_zero, List.getElem_cons_succ, List.setIfInBounds_toArray, List.set_cons_zero, List.set_cons_succ]
                      replace bW := bW.trans (hH.mono (by have := bW.size; have := HG.out; omega))
                      replace r0 := r0.below hH
                      replace r1 := r1.below hH
                      replace r2 := r2.below hH
                      replace r3 := r3.below hH
                      clear hH hleX hleY hxy
                      generalize v0.heap.size = gX at oX ⊢
                      generalize v10.heap.size = gY at oY ⊢
                      exact rest gX gY v18 ⟨oX, oY, r0, r1, r2, r3, bW⟩
                  · refine wp_of_exec (exec_new z34 rfl v0) ?_
                    have hleY := hH.size
                    refine hKK.out _ _ (hH.alloc hH.size _) (fun hH => ?_)
                    clear hKK KK
                    try simp only [Act.put, List.setIfInBounds_toArray, List.set_cons_zero, List.set_cons_succ]
                    have oY := Own.new v0 34 (vs (zs 33))
                    generalize v0.alloc (Obj.cells (vs (zs 33)) 34) = v19 at *
                    refine efH2 (i := 9) (j := 10) rfl rfl (by kernel_rfl) (by rfl) (by rfl) (fun KK hKK => ?_) (fun KK hKK => ?_)
                    · go_simp
                      refine (hD _).mono ?_
                      rintro e v20 ⟨rfl, hx⟩
                      have hH' := hH.trans (hx.mono hH.size)
                      go_wp2_with fail
                      refine hKK.out _ _ hH' (fun hH => ?_)
                      replace oY := oY.below hx
                      clear hKK KK hH' hx
                      try simp only [Act.put, List.setIfInBounds_toArray, List.set_cons_zero, List.set_cons_succ]
                      refine efH (i := 10) rfl (by kernel_rfl) (by rfl) (fun KK hKK => ?_)
                      refine wp_of_exec (exec_new z34 rfl v20) ?_
                      have hleX := hH.size
                      refine hKK.out _ _ (hH.alloc hH.size _) (fun hH => ?_)
                      clear hKK KK
                      try simp only [Act.put, List.setIfInBounds_toArray, List.set_cons_zero, List.set_cons_succ]
                      have hxy := oY.lt
                      replace oY := oY.alloc (Obj.cells (vs (zs 33)) 34)
                      have oX := Own.new v20 34 (vs (zs 33))
                      generalize v20.alloc (Obj.cells (vs (zs 33)) 34) = v21 at *
                      refine efH (i := 12) rfl (by kernel_rfl) (by rfl) (fun KK hKK => ?_)
                      refine wp_store_row 34 _ _ rfl v20.heap.size (vs C) rfl rfl 34 (vs (zs 33)) oX (by rw [t34.siz, vs_size, lC]) (by rw [vs_size, vs_size, zs_length, lC]) (vs_one _) ?_
                      refine hKK.out _ _ (below_row hH hleX _) (fun hH => ?_)
                      clear hKK KK
                      replace oX := oX.row (vs C)
                      replace oY := oY.rowOther v20.heap.size (vs C) (by omega)
                      generalize v21.setRow v20.heap.size (vs C) = v22 at *
                      try simp only [Act.put, List.setIfInBounds_toArray, List.set_cons_zero, List.set_cons_succ]
                      refine efH (i := 13) rfl (by kernel_rfl) (by rfl) (fun KK hKK => ?_)
                      refine wp_store_row 34 _ _ rfl v0.heap.size (vs D) rfl rfl 34 (vs (zs 33)) oY (by rw [t34.siz, vs_size, lD]) (by rw [vs_size, vs_size, zs_length, lD]) (vs_one _) ?_
                      refine hKK.out _ _ (below_row hH hleY _) (fun hH => ?_)
                      clear hKK KK
                      replace oY := oY.row (vs D)
                      replace oX := oX.rowOther v0.heap.size (vs D) (by omega)
                      generalize v22.setRow v0.heap.size (vs D) = v23 at *
                      try simp only [Act.put, List.setIfInBounds_toArray, List.set_cons_zero, List.set_cons_succ]
                      refine wpAnyH_done (by kernel_rfl) ?_ _
                      try simp only [Act.put, List.getElem_toArray, List.getElem_cons_zero, List.getElem_cons_succ, List.setIfInBounds_toArray, List.set_cons_zero, List.set_cons_succ]
                      replace bW := bW.trans (hH.mono (by have := bW.size; have := HG.out; omega))
                      replace r0 := r0.below hH
                      replace r1 := r1.below hH
                      replace r2 := r2.below hH
                      replace r3 := r3.below hH
                      clear hH hleX hleY hxy
                      generalize v20.heap.size = gX at oX ⊢
                      generalize v0.heap.size = gY at oY ⊢
                      exact rest gX gY v23 ⟨oX, oY, r0, r1, r2, r3, bW⟩
                    · refine wp_of_exec (exec_new z34 rfl v19) ?_
                      have hleX := hH.size
                      refine hKK.out _ _ (hH.alloc hH.size _) (fun hH => ?_)
                      clear hKK KK
                      try simp only [Act.put, List.setIfInBounds_toArray, List.set_cons_zero, List.set_cons_succ]
                      have hxy := oY.lt
                      replace oY := oY.alloc (Obj.cells (vs (zs 33)) 34)
                      have oX := Own.new v19 34 (vs (zs 33))
                      generalize v19.alloc (Obj.cells (vs (zs 33)) 34) = v24 at *
                      refine efH (i := 9) rfl (by kernel_rfl) (by rfl) (fun KK hKK => ?_)
                      go_simp
                      refine (hD _).mono ?_
                      rintro e v25 ⟨rfl, hx⟩
                      have hH' := hH.trans (hx.mono hH.size)
                      go_wp2_with fail
                      refine hKK.out _ _ hH' (fun hH => ?_)
                      replace oY := oY.below hx
                      replace oX := oX.below hx
                      clear hKK KK hH' hx
                      try simp only [Act.put, List.setIfInBounds_toArray, List.set_cons_zero, List.set_cons_succ]
                      refine efH (i := 12) rfl (by kernel_rfl) (by rfl) (fun KK hKK => ?_)
                      refine wp_store_row 34 _ _ rfl v19.heap.size (vs C) rfl rfl 34 (vs (zs 33)) oX (by rw [t34.siz, vs_size, lC]) (by rw [vs_size, vs_size, zs_length, lC]) (vs_one _) ?_
                      refine hKK.out _ _ (below_row hH hleX _) (fun hH => ?_)
                      clear hKK KK
                      replace oX := oX.row (vs C)
                      replace oY := oY.rowOther v19.heap.size (vs C) (by omega)
                      generalize v25.setRow v19.heap.size (vs C) = v26 at *
                      try simp only [Act.put, List.setIfInBounds_toArray, List.set_cons_zero, List.set_cons_succ]
                      refine efH (i := 13) rfl (by kernel_rfl) (by rfl) (fun KK hKK => ?_)
                      refine wp_store_row 34 _ _ rfl v0.heap.size (vs D) rfl rfl 34 (vs (zs 33)) oY (by rw [t34.siz, vs_size, lD]) (by rw [vs_size, vs_size, zs_length, lD]) (vs_one _) ?_
                      refine hKK.out _ _ (below_row hH hleY _) (fun hH => ?_)
                      clear hKK KK
                      replace oY := oY.row (vs D)
                      replace oX := oX.rowOther v0.heap.size (vs D) (by omega)
                      generalize v26.setRow v0.heap.size (vs D) = v27 at *
                      try simp only [Act.put, List.setIfInBounds_toArray, List.set_cons_zero, List.set_cons_succ]
                      refine wpAnyH_done (by kernel_rfl) ?_ _
                      try simp only [Act.put, List.getElem_toArray, List.getElem_cons_zero, List.getElem_cons_succ, List.setIfInBounds_toArray, List.set_cons_zero, List.set_cons_succ]
                      replace bW := bW.trans (hH.mono (by have := bW.size; have := HG.out; omega))
                      replace r0 := r0.below hH
                      replace r1 := r1.below hH
                      replace r2 := r2.below hH
                      replace r3 := r3.below hH
                      clear hH hleX hleY hxy
                      generalize v19.heap.size = gX at oX ⊢
                      generalize v0.heap.size = gY at oY ⊢
                      exact rest gX gY v27 ⟨oX, oY, r0, r1, r2, r3, bW⟩
                · refine wp_of_exec (exec_new z34 rfl w0) ?_
                  have hleX := hH.size
                  refine hKK.out _ _ (hH.alloc hH.size _) (fun hH => ?_)
                  clear hKK KK
                  try simp only [Act.put, List.setIfInBounds_toArray, List.set_cons_zero, List.set_cons_succ]
                  have oX := Own.new w0 34 (vs (zs 33))
                  generalize w0.alloc (Obj.cells (vs (zs 33)) 34) = v28 at *
                  refine efH2 (i := 4) (j := 11) rfl rfl (by kernel_rfl) (by rfl) (by rfl) (fun KK hKK => ?_) (fun KK hKK => ?_)
                  · go_simp
                    refine (hC _).mono ?_
                    rintro e v29 ⟨rfl, hx⟩
                    have hH' := hH.trans (hx.mono hH.size)
                    go_wp2_with fail
                    refine hKK.out _ _ hH' (fun hH => ?_)
                    replace oX := oX.below hx
                    clear hKK KK hH' hx
                    try simp only [Act.put, List.setIfInBounds_toArray, List.set_cons_zero, List.set_cons_succ]
                    refine efH2 (i := 9) (j := 11) rfl rfl (by kernel_rfl) (by rfl) (by rfl) (fun KK hKK => ?_) (fun KK hKK => ?_)
                    · go_simp
                      refine (hD _).mono ?_
                      rintro e v30 ⟨rfl, hx⟩
                      have hH' := hH.trans (hx.mono hH.size)
                      go_wp2_with fail
                      refine hKK.out _ _ hH' (fun hH => ?_)
                      replace oX := oX.below hx
                      clear hKK KK hH' hx
                      try simp only [Act.put, List.setIfInBounds_toArray, List.set_cons_zero, List.set_cons_succ]
                      refine efH (i := 11) rfl (by kernel_rfl) (by rfl) (fun KK hKK => ?_)
                      refine wp_of_exec (exec_new z34 rfl v30) ?_
                      have hleY := hH.size
                      refine hKK.out _ _ (hH.alloc hH.size _) (fun hH => ?_)
                      clear hKK KK
                      try simp only [Act.put, List.setIfInBounds_toArray, List.set_cons_zero, List.set_cons_succ]
                      have hxy := oX.lt
                      replace oX := oX.alloc (Obj.cells (vs (zs 33)) 34)
                      have oY := Own.new v30 34 (vs (zs 33))
                      generalize v30.alloc (Obj.cells (vs (zs 33)) 34) = v31 at *
                      refine efH (i := 12) rfl (by kernel_rfl) (by rfl) (fun KK hKK => ?_)
                      refine wp_store_row 34 _ _ rfl w0.heap.size (vs C) rfl rfl 34 (vs (zs 33)) oX (by rw [t34.siz, vs_size, lC]) (by rw [vs_size, vs_size, zs_length, lC]) (vs_one _) ?_
                      refine hKK.out _ _ (below_row hH hleX _) (fun hH => ?_)
                      clear hKK KK
                      replace oX := oX.row (vs C)
                      replace oY := oY.rowOther w0.heap.size (vs C) (by omega)
                      generalize v31.setRow w0.heap.size (vs C) = v32 at *
                      try simp only [Act.put, List.setIfInBounds_toArray, List.set_cons_zero, List.set_cons_succ]
                      refine efH (i := 13) rfl (by kernel_rfl) (by rfl) (fun KK hKK => ?_)
                      refine wp_store_row 34 _ _ rfl v30.heap.size (vs D) rfl rfl 34 (vs (zs 33)) oY (by rw [t34.siz, vs_size, lD]) (by rw [vs_size, vs_size, zs_length, lD]) (vs_one _) ?_
                      refine hKK.out _ _ (below_row hH hleY _) (fun hH => ?_)
                      clear hKK KK
                      replace oY := oY.row (vs D)
                      replace oX := oX.rowOther v30.heap.size (vs D) (by omega)
                      generalize v32.setRow v30.heap.size (vs D) = v33 at *
                      try simp only [Act.put, List.setIfInBounds_toArray, List.set_cons_zero, List.set_cons_succ]
                      refine wpAnyH_done (by kernel_rfl) ?_ _
                      try simp only [Act.put, List.getElem_toArray, List.getElem_cons_zero, List.getElem_cons_succ, List.setIfInBounds_toArray, List.set_cons_zero, List.set_cons_succ]
                      replace bW := bW.trans (hH.mono (by have := bW.size; have := HG.out; omega))
                      replace r0 := r0.below hH
                      replace r1 := r1.below hH
                      replace r2 := r2.below hH
                      replace r3 := r3.below hH
                      clear hH hleX hleY hxy
                      generalize w0.heap.size = gX at oX ⊢
                      generalize v30.heap.size = gY at oY ⊢
                      exact rest gX gY v33 ⟨oX, oY, r0, r1, r2, r3, bW⟩
                    · refine wp_of_exec (exec_new z34 rfl v29) ?_
                      have hleY := hH.size
                      refine hKK.out _ _ (hH.alloc hH.size _) (fun hH => ?_)
                      clear hKK KK
                      try simp only [Act.put, List.setIfInBounds_toArray, List.set_cons_zero, List.set_cons_succ]
                      have hxy := oX.lt
                      replace oX := oX.alloc (Obj.cells (vs (zs 33)) 34)
                      have oY := Own.new v29 34 (vs (zs 33))
                      generalize v29.alloc (Obj.cells (vs (zs 33)) 34) = v34 at *
                      refine efH (i := 9) rfl (by kernel_rfl) (by rfl) (fun KK hKK => ?_)
                      go_simp
                      refine (hD _).mono ?_
                      rintro e v35 ⟨rfl, hx⟩
                      have hH' := hH.trans (hx.mono hH.size)
                      go_wp2_with fail
                      refine hKK.out _ _ hH' (fun hH => ?_)
                      replace oX := oX.below hx
                      replace oY := oY.below hx
                      clear hKK KK hH' hx
                      try simp only [Act.put, List.setIfInBounds_toArray, List.set_cons_zero, List.set_cons_succ]
                      refine efH (i := 12) rfl (by kernel_rfl) (by rfl) (fun KK hKK => ?_)
                      refine wp_store_row 34 _ _ rfl w0.heap.size (vs C) rfl rfl 34 (vs (zs 33)) oX (by rw [t34.siz, vs_size, lC]) (by rw [vs_size, vs_size, zs_length, lC]) (vs_one _) ?_
                      refine hKK.out _ _ (below_row hH hleX _) (fun hH => ?_)
                      clear hKK KK
                      replace oX := oX.row (vs C)
                      replace oY := oY.rowOther w0.heap.size (vs C) (by omega)
                      generalize v35.setRow w0.heap.size (vs C) = v36 at *
                      try simp only [Act.put, List.setIfInBounds_toArray, List.set_cons_zero, List.set_cons_succ]
                      refine efH (i := 13) rfl (by kernel_rfl) (by rfl) (fun KK hKK => ?_)
                      refine wp_store_row 34 _ _ rfl v29.heap.size (vs D) rfl rfl 34 (vs (zs 33)) oY (by rw [t34.siz, vs_size, lD]) (by rw [vs_size, vs_size, zs_length, lD]) (vs_one _) ?_
                      refine hKK.out _ _ (below_row hH hleY _) (fun hH => ?_)
                      clear hKK KK
                      replace oY := oY.row (vs D)
                      replace oX := oX.rowOther v29.heap.size (vs D) (by omega)
                      generalize v36.setRow v29.heap.size (vs D) = v37 at *
                      try simp only [Act.put, List.setIfInBounds_toArray, List.set_cons_zero, List.set_cons_succ]
                      refine wpAnyH_done (by kernel_rfl) ?_ _
                      try simp only [Act.put, List.getElem_toArray, List.getElem_cons_zero, List.getElem_cons_succ, List.setIfInBounds_toArray, List.set_cons_zero, List.set_cons_succ]
                      replace bW := bW.trans (hH.mono (by have := bW.size; have := HG.out; omega))
                      replace r0 := r0.below hH
                      replace r1 := r1.below hH
                      replace r2 := r2.below hH
                      replace r3 := r3.below hH
                      clear hH hleX hleY hxy
                      generalize w0.heap.size = gX at oX ⊢
                      generalize v29.heap.size = gY at oY ⊢
                      exact rest gX gY v37 ⟨oX, oY, r0, r1, r2, r3, bW⟩
                  · refine wp_of_exec (exec_new z34 rfl v28) ?_
                    have hleY := hH.size
                    refine hKK.out _ _ (hH.alloc hH.size _) (fun hH => ?_)
                    clear hKK KK
                    try simp only [Act.put, List.setIfInBounds_toArray, List.set_cons_zero, List.set_cons_succ]
                    have hxy := oX.lt
                    replace oX := oX.alloc (Obj.cells (vs (zs 33)) 34)
                    have oY := Own.new v28 34 (vs (zs 33))
                    generalize v28.alloc (Obj.cells (vs (zs 33)) 34) = v38 at *
                    refine efH (i := 4) rfl (by kernel_rfl) (by rfl) (fun KK hKK => ?_)
                    go_simp
                    refine (hC _).mono ?_
                    rintro e v39 ⟨rfl, hx⟩
                    have hH' := hH.trans (hx.mono hH.size)
                    go_wp2_with fail
                    refine hKK.out _ _ hH' (fun hH => ?_)
                    replace oX := oX.below hx
                    replace oY := oY.below hx
                    clear hKK KK hH' hx
                    try simp only [Act.put, List.setIfInBounds_toArray, List.set_cons_zero, List.set_cons_succ]
                    refine efH (i := 9) rfl (by kernel_rfl) (by rfl) (fun KK hKK => ?_)
                    go_simp
                    refine (hD _).mono ?_
                    rintro e v40 ⟨rfl, hx⟩
                    have hH' := hH.trans (hx.mono hH.size)
                    go_wp2_with fail
                    refine hKK.out _ _ hH' (fun hH => ?_)
                    replace oX := oX.below hx
                    replace oY := oY.below hx
                    clear hKK KK hH' hx
                    try simp only [Act.put, List.setIfInBounds_toArray, List.set_cons_zero, List.set_cons_succ]
                    refine efH (i := 12) rfl (by kernel_rfl) (by rfl) (fun KK hKK => ?_)
                    refine wp_store_row 34 _ _ rfl w0.heap.size (vs C) rfl rfl 34 (vs (zs 33)) oX (by rw [t34.siz, vs_size, lC]) (by rw [vs_size, vs_size, zs_length, lC]) (vs_one _) ?_
                    refine hKK.out _ _ (below_row hH hleX _) (fun hH => ?_)
                    clear hKK KK
                    replace oX := oX.row (vs C)
                    replace oY := oY.rowOther w0.heap.size (vs C) (by omega)
                    generalize v40.setRow w0.heap.size (vs C) = v41 at *
                    try simp only [Act.put, List.setIfInBounds_toArray, List.set_cons_zero, List.set_cons_succ]
                    refine efH (i := 13) rfl (by kernel_rfl) (by rfl) (fun KK hKK => ?_)
                    refine wp_store_row 34 _ _ rfl v28.heap.size (vs D) rfl rfl 34 (vs (zs 33)) oY (by rw [t34.siz, vs_size, lD]) (by rw [vs_size, vs_size, zs_length, lD]) (vs_one _) ?_
                    refine hKK.out _ _ (below_row hH hleY _) (fun hH => ?_)
                    clear hKK KK
                    replace oY := oY.row (vs D)
                    replace oX := oX.rowOther v28.heap.size (vs D) (by omega)
                    generalize v41.setRow v28.heap.size (vs D) = v42 at *
                    try simp only [Act.put, List.setIfInBounds_toArray, List.set_cons_zero, List.set_cons_succ]
                    refine wpAnyH_done (by kernel_rfl) ?_ _
                    try simp only [Act.put, List.getElem_toArray, List.getElem_cons_zero, List.getElem_cons_succ, List.setIfInBounds_toArray, List.set_cons_zero, List.set_cons_succ]
                    replace bW := bW.trans (hH.mono (by have := bW.size; have := HG.out; omega))
                    replace r0 := r0.below hH
                    replace r1 := r1.below hH
                    replace r2 := r2.below hH
                    replace r3 := r3.below hH
                    clear hH hleX hleY hxy
                    generalize w0.heap.size = gX at oX ⊢
                    generalize v28.heap.size = gY at oY ⊢
                    exact rest gX gY v42 ⟨oX, oY, r0, r1, r2, r3, bW⟩
                · refine wp_of_exec (exec_new z34 rfl w0) ?_
                  have hleY := hH.size
                  refine hKK.out _ _ (hH.alloc hH.size _) (fun hH => ?_)
                  clear hKK KK
                  try simp only [Act.put, List.setIfInBounds_toArray, List.set_cons_zero, List.set_cons_succ]
                  have oY := Own.new w0 34 (vs (zs 33))
                  generalize w0.alloc (Obj.cells (vs (zs 33)) 34) = v43 at *
                  refine efH2 (i := 4) (j := 10) rfl rfl (by kernel_rfl) (by rfl) (by rfl) (fun KK hKK => ?_) (fun KK hKK => ?_)
                  · go_simp
                    refine (hC _).mono ?_
                    rintro e v44 ⟨rfl, hx⟩
                    have hH' := hH.trans (hx.mono hH.size)
                    go_wp2_with fail
                    refine hKK.out _ _ hH' (fun hH => ?_)
                    replace oY := oY.below hx
                    clear hKK KK hH' hx
                    try simp only [Act.put, List.setIfInBounds_toArray, List.set_cons_zero, List.set_cons_succ]
                    refine efH2 (i := 9) (j := 10) rfl rfl (by kernel_rfl) (by rfl) (by rfl) (fun KK hKK => ?_) (fun KK hKK => ?_)
                    · go_simp
                      refine (hD _).mono ?_
                      rintro e v45 ⟨rfl, hx⟩
                      have hH' := hH.trans (hx.mono hH.size)
                      go_wp2_with fail
                      refine hKK.out _ _ hH' (fun hH => ?_)
                      replace oY := oY.below hx
                      clear hKK KK hH' hx
                      try simp only [Act.put, List.setIfInBounds_toArray, List.set_cons_zero, List.set_cons_succ]
                      refine efH (i := 10) rfl (by kernel_rfl) (by rfl) (fun KK hKK => ?_)
                      refine wp_of_exec (exec_new z34 rfl v45) ?_
                      have hleX := hH.size
                      refine hKK.out _ _ (hH.alloc hH.size _) (fun hH => ?_)
                      clear hKK KK
                      try simp only [Act.put, List.setIfInBounds_toArray, List.set_cons_zero, List.set_cons_succ]
                      have hxy := oY.lt
                      replace oY := oY.alloc (Obj.cells (vs (zs 33)) 34)
                      have oX := Own.new v45 34 (vs (zs 33))
                      generalize v45.alloc (Obj.cells (vs (zs 33)) 34) = v46 at *
                      refine efH (i := 12) rfl (by kernel_rfl) (by rfl) (fun KK hKK => ?_)
                      refine wp_store_row 34 _ _ rfl v45.heap.size (vs C) rfl rfl 34 (vs (zs 33)) oX (by rw [t34.siz, vs_size, lC]) (by rw [vs_size, vs_size, zs_length, lC]) (vs_one _) ?_
                      refine hKK.out _ _ (below_row hH hleX _) (fun hH => ?_)
                      clear hKK KK
                      replace oX := oX.row (vs C)
                      replace oY := oY.rowOther v45.heap.size (vs C) (by omega)
                      generalize v46.setRow v45.heap.size (vs C) = v47 at *
                      try simp only [Act.put, List.setIfInBounds_toArray, List.set_cons_zero, List.set_cons_succ]
                      refine efH (i := 13) rfl (by kernel_rfl) (by rfl) (fun KK hKK => ?_)
                      refine wp_store_row 34 _ _ rfl w0.heap.size (vs D) rfl rfl 34 (vs (zs 33)) oY (by rw [t34.siz, vs_size, lD]) (by rw [vs_size, vs_size, zs_length, lD]) (vs_one _) ?_
                      refine hKK.out _ _ (below_row hH hleY _) (fun hH => ?_)
                      clear hKK KK
                      replace oY := oY.row (vs D)
                      replace oX := oX.rowOther w0.heap.size (vs D) (by omega)
                      generalize v47.setRow w0.heap.size (vs D) = v48 at *
                      try simp only [Act.put, List.setIfInBounds_toArray, List.set_cons_zero, List.set_cons_succ]
                      refine wpAnyH_done (by kernel_rfl) ?_ _
                      try simp only [Act.put, List.getElem_toArray, List.getElem_cons_zero, List.getElem_cons_succ, List.setIfInBounds_toArray, List.set_cons_zero, List.set_cons_succ]
                      replace bW := bW.trans (hH.mono (by have := bW.size; have := HG.out; omega))
                      replace r0 := r0.below hH
                      replace r1 := r1.below hH
                      replace r2 := r2.below hH
                      replace r3 := r3.below hH
                      clear hH hleX hleY hxy
                      generalize v45.heap.size = gX at oX ⊢
                      generalize w0.heap.size = gY at oY ⊢
                      exact rest gX gY v48 ⟨oX, oY, r0, r1, r2, r3, bW⟩
                    · refine wp_of_exec (exec_new z34 rfl v44) ?_
                      have hleX := hH.size
                      refine hKK.out _ _ (hH.alloc hH.size _) (fun hH => ?_)
                      clear hKK KK
                      try simp only [Act.put, List.setIfInBounds_toArray, List.set_cons_zero, List.set_cons_succ]
                      have hxy := oY.lt
                      replace oY := oY.alloc (Obj.cells (vs (zs 33)) 34)
                      have oX := Own.new v44 34 (vs (zs 33))
                      generalize v44.alloc (Obj.cells (vs (zs 33)) 34) = v49 at *
                      refine efH (i := 9) rfl (by kernel_rfl) (by rfl) (fun KK hKK => ?_)
                      go_simp
                      refine (hD _).mono ?_
                      rintro e v50 ⟨rfl, hx⟩
                      have hH' := hH.trans (hx.mono hH.size)
                      go_wp2_with fail
                      refine hKK.out _ _ hH' (fun hH => ?_)
                      replace oY := oY.below hx
                      replace oX := oX.below hx
                      clear hKK KK hH' hx
                      try simp only [Act.put, List.setIfInBounds_toArray, List.set_cons_zero, List.set_cons_succ]
                      refine efH (i := 12) rfl (by kernel_rfl) (by rfl) (fun KK hKK => ?_)
                      refine wp_store_row 34 _ _ rfl v44.heap.size (vs C) rfl rfl 34 (vs (zs 33)) oX (by rw [t34.siz, vs_size, lC]) (by rw [vs_size, vs_size, zs_length, lC]) (vs_one _) ?_
                      refine hKK.out _ _ (below_row hH hleX _) (fun hH => ?_)
                      clear hKK KK
                      replace oX := oX.row (vs C)
                      replace oY := oY.rowOther v44.heap.size (vs C) (by omega)
                      generalize v50.setRow v44.heap.size (vs C) = v51 at *
                      try simp only [Act.put, List.setIfInBounds_toArray, List.set_cons_zero, List.set_cons_succ]
                      refine efH (i := 13) rfl (by kernel_rfl) (by rfl) (fun KK hKK => ?_)
                      refine wp_store_row 34 _ _ rfl w0.heap.size (vs D) rfl rfl 34 (vs (zs 33)) oY (by rw [t34.siz, vs_size, lD]) (by rw [vs_size, vs_size, zs_length, lD]) (vs_one _) ?_
                      refine hKK.out _ _ (below_row hH hleY _) (fun hH => ?_)
                      clear hKK KK
                      replace oY := oY.row (vs D)
                      replace oX := oX.rowOther w0.heap.size (vs D) (by omega)
                      generalize v51.setRow w0.heap.size (vs D) = v52 at *
                      try simp only [Act.put, List.setIfInBounds_toArray, List.set_cons_zero, List.set_cons_succ]
                      refine wpAnyH_done (by kernel_rfl) ?_ _
                      try simp only [Act.put, List.getElem_toArray, List.getElem_cons_zero, List.getElem_cons_succ, List.setIfInBounds_toArray, List.set_cons_zero, List.set_cons_succ]
                      replace bW := bW.trans (hH.mono (by have := bW.size; have := HG.out; omega))
                      replace r0 := r0.below hH
                      replace r1 := r1.below hH
                      replace r2 := r2.below hH
                      replace r3 := r3.below hH
                      clear hH hleX hleY hxy
                      generalize v44.heap.size = gX at oX ⊢
                      generalize w0.heap.size = gY at oY ⊢
                      exact rest gX gY v52 ⟨oX, oY, r0, r1, r2, r3, bW⟩
                  · refine wp_of_exec (exec_new z34 rfl v43) ?_
                    have hleX := hH.size
                    refine hKK.out _ _ (hH.alloc hH.size _) (fun hH => ?_)
                    clear hKK KK
                    try simp only [Act.put, List.setIfInBounds_toArray, List.set_cons_zero, List.set_cons_succ]
                    have hxy := oY.lt
                    replace oY := oY.alloc (Obj.cells (vs (zs 33)) 34)
                    have oX := Own.new v43 34 (vs (zs 33))
                    generalize v43.alloc (Obj.cells (vs (zs 33)) 34) = v53 at *
                    refine efH (i := 4) rfl (by kernel_rfl) (by rfl) (fun KK hKK => ?_)
                    go_simp
                    refine (hC _).mono ?_
                    rintro e v54 ⟨rfl, hx⟩
                    have hH' := hH.trans (hx.mono hH.size)
                    go_wp2_with fail
                    refine hKK.out _ _ hH' (fun hH => ?_)
                    replace oY := oY.below hx
                    replace oX := oX.below hx
                    clear hKK KK hH' hx
                    try simp only [Act.put, List.setIfInBounds_toArray, List.set_cons_zero, List.set_cons_succ]
                    refine efH (i := 9) rfl (by kernel_rfl) (by rfl) (fun KK hKK => ?_)
                    go_simp
                    refine (hD _).mono ?_
                    rintro e v55 ⟨rfl, hx⟩
                    have hH' := hH.trans (hx.mono hH.size)
                    go_wp2_with fail
                    refine hKK.out _ _ hH' (fun hH => ?_)
                    replace oY := oY.below hx
                    replace oX := oX.below hx
                    clear hKK KK hH' hx
                    try simp only [Act.put, List.setIfInBounds_toArray, List.set_cons_zero, List.set_cons_succ]
                    refine efH (i := 12) rfl (by kernel_rfl) (by rfl) (fun KK hKK => ?_)
                    refine wp_store_row 34 _ _ rfl v43.heap.size (vs C) rfl rfl 34 (vs (zs 33)) oX (by rw [t34.siz, vs_size, lC]) (by rw [vs_size, vs_size, zs_length, lC]) (vs_one _) ?_
                    refine hKK.out _ _ (below_row hH hleX _) (fun hH => ?_)
                    clear hKK KK
                    replace oX := oX.row (vs C)
                    replace oY := oY.rowOther v43.heap.size (vs C) (by omega)
                    generalize v55.setRow v43.heap.size (vs C) = v56 at *
                    try simp only [Act.put, List.setIfInBounds_toArray, List.set_cons_zero, List.set_cons_succ]
                    refine efH (i := 13) rfl (by kernel_rfl) (by rfl) (fun KK hKK => ?_)
                    refine wp_store_row 34 _ _ rfl w0.heap.size (vs D) rfl rfl 34 (vs (zs 33)) oY (by rw [t34.siz, vs_size, lD]) (by rw [vs_size, vs_size, zs_length, lD]) (vs_one _) ?_
                    refine hKK.out _ _ (below_row hH hleY _) (fun hH => ?_)
                    clear hKK KK
                    replace oY := oY.row (vs D)
                    replace oX := oX.rowOther w0.heap.size (vs D) (by omega)
                    generalize v56.setRow w0.heap.size (vs D) = v57 at *
                    try simp only [Act.put, List.setIfInBounds_toArray, List.set_cons_zero, List.set_cons_succ]
                    refine wpAnyH_done (by kernel_rfl) ?_ _
                    try simp only [Act.put, List.getElem_toArray, List.getElem_cons_zero, List.getElem_cons_succ, List.setIfInBounds_toArray, List.set_cons_zero, List.set_cons_succ]
                    replace bW := bW.trans (hH.mono (by have := bW.size; have := HG.out; omega))
                    replace r0 := r0.below hH
                    replace r1 := r1.below hH
                    replace r2 := r2.below hH
                    replace r3 := r3.below hH
                    clear hH hleX hleY hxy
                    generalize v43.heap.size = gX at oX ⊢
                    generalize w0.heap.size = gY at oY ⊢
                    exact rest gX gY v57 ⟨oX, oY, r0, r1, r2, r3, bW⟩
              · rintro gX gY w2 ⟨oX, oY, r0, r1, r2, r3, bW⟩
                clear hC hD
                have rX := oX.rg
                have rY := oY.rg
                clear oX oY
                have z0 := bW.size
                obtain ⟨F1, hF1⟩ : ∃ F, F = [A, B, C].flatten := ⟨_, rfl⟩
                obtain ⟨F2, hF2⟩ : ∃ F, F = [A, B, D].flatten := ⟨_, rfl⟩
                have HF := Lib.hid (And.intro hF1 hF2)
                clear hF1 hF2
                have oL := Own.new w2 34 (vs F1)
                have k1 : Below w2.heap.size w2 (w2.alloc (Obj.cells (vs F1) 34)) := (Below.refl _ _).alloc (Nat.le_refl _) _
                go_wp2_with (first | (refine ld t34 rfl rfl rfl r0 lA ?_) | (refine ld t34 rfl rfl rfl r1 lB ?_) | (refine ld t34 rfl rfl rfl rX lC ?_) | (refine bsl3 lA lB lC HF.out.1 rfl rfl rfl rfl rfl ?_))
                replace r0 := r0.below k1
                replace r1 := r1.below k1
                replace r2 := r2.below k1
                replace r3 := r3.below k1
                replace rX := rX.below k1
                replace rY := rY.below k1
                replace bW := bW.trans (k1.mono (by have := bW.size; have := HG.out; omega))
                generalize w2.alloc (Obj.cells (vs F1) 34) = xa at *
                generalize w2.heap.size = xg at *
                refine (HS.out.1 _ _ (ss_lit lA lB lC HB.out.1 HB.out.2.1 HS.out.2.2.2.1 (by rw [← HF.out.1]; exact oL))).mono ?_
                rintro e xb ⟨rfl, hx⟩
                replace r0 := r0.below hx
                replace r1 := r1.below hx
                replace r2 := r2.below hx
                replace r3 := r3.below hx
                replace rX := rX.below hx
                replace rY := rY.below hx
                replace bW := bW.trans (hx.mono (by have := bW.size; have := HG.out; omega))
                have k2 : Below xb.heap.size xb (xb.alloc (Obj.cells (vs K) 23)) := (Below.refl _ _).alloc (Nat.le_refl _) _
                have rC := (Own.new xb 23 (vs K)).rg
                replace r0 := r0.below k2
                replace r1 := r1.below k2
                replace r2 := r2.below k2
                replace r3 := r3.below k2
                replace rX := rX.below k2
                replace rY := rY.below k2
                replace bW := bW.trans (k2.mono (by have := bW.size; have := HG.out; omega))
                clear hx oL k1
                go_wp2_with (first | (refine alz z23 rfl rfl ?_) | (refine sto_new t23 rfl rfl rfl rfl rfl ((vs_size _).trans (zs_length _)) lK ?_) | (refine ld t34 rfl rfl rfl r0 lA ?_) | (refine ld t34 rfl rfl rfl r1 lB ?_) | (refine ld t34 rfl rfl rfl rY lD ?_) | (refine bsl3 lA lB lD HF.out.2 rfl rfl rfl rfl rfl ?_))
                clear k2
                have hs5 := (sz1 xb (Obj.cells (vs K) 23)).symm
                generalize xb.alloc (Obj.cells (vs K) 23) = w5 at *
                generalize xb.heap.size = g13 at *
                have oL := Own.new' w5 34 (vs F2) hs5.symm
                have k1 : Below w5.heap.size w5 (w5.alloc (Obj.cells (vs F2) 34)) := (Below.refl _ _).alloc (Nat.le_refl _) _
                replace r0 := r0.below k1
                replace r1 := r1.below k1
                replace r2 := r2.below k1
                replace r3 := r3.below k1
                replace rX := rX.below k1
                replace rY := rY.below k1
                replace rC := rC.below k1
                replace bW := bW.trans (k1.mono (by have := bW.size; have := HG.out; omega))
                generalize w5.alloc (Obj.cells (vs F2) 34) = ya at *
                refine (HS.out.2.1 _ _ (ss_lit lA lB lD HB.out.1 HB.out.2.1 HS.out.2.2.2.2 (by rw [← HF.out.2]; exact oL))).mono ?_
                rintro e yb ⟨rfl, hx⟩
                replace r0 := r0.below hx
                replace r1 := r1.below hx
                replace r2 := r2.below hx
                replace r3 := r3.below hx
                replace rX := rX.below hx
                replace rY := rY.below hx
                replace rC := rC.below hx
                replace bW := bW.trans (hx.mono (by have := bW.size; have := HG.out; omega))
                have k2 : Below yb.heap.size yb (yb.alloc (Obj.cells (vs O) 23)) := (Below.refl _ _).alloc (Nat.le_refl _) _
                have rD := (Own.new yb 23 (vs O)).rg
                replace r0 := r0.below k2
                replace r1 := r1.below k2
                replace r2 := r2.below k2
                replace r3 := r3.below k2
                replace rX := rX.below k2
                replace rY := rY.below k2
                replace rC := rC.below k2
                replace bW := bW.trans (k2.mono (by have := bW.size; have := HG.out; omega))
                clear hx oL k1
                go_wp2_with (first | (refine alz z23 rfl rfl ?_) | (refine sto_new t23 rfl rfl rfl rfl rfl ((vs_size _).trans (zs_length _)) lO ?_))
                clear k2
                generalize yb.alloc (Obj.cells (vs O) 23) = q1 at *
                generalize yb.heap.size = g15 at *
                have dK : decide (K = K) = true := decide_eq_true rfl
                have dO : decide (O = O) = true := decide_eq_true rfl
                obtain ⟨v, dKO⟩ : ∃ v, decide (K = O) = v := ⟨_, rfl⟩
                have dC : decide (C = D) = v := by rw [HS.out.2.2.1, dKO]
                replace r0 := r0.drew
                replace r1 := r1.drew
                replace r2 := r2.drew
                replace r3 := r3.drew
                replace rX := rX.drew
                replace rY := rY.drew
                replace rC := rC.drew
                replace rD := rD.drew
                replace bW := bW.drew
                refine wp_region_held_drew (S := fun w' => Below q1.drew.heap.size q1.drew w') (by kernel_rfl) (Below.refl _ _) (fun hH => ?_)
                generalize q1.drew = q2 at *
                refine tkH (v := ?_) (i := 0) rfl (by kernel_rfl) (by kernel_rfl) (by kernel_rfl) (fun _ _ _ h => h) hH (Or.inl ⟨by kernel_rfl, ?_⟩) ?_
                rotate_left
                · intro wq hq
                  go_simp
                  try rfl
                try simp only [Act.put, List.setIfInBounds_toArray, List.set_cons_zero, List.set_cons_succ]
                refine tkH (v := ?_) (i := 1) rfl (by kernel_rfl) (by kernel_rfl) (by kernel_rfl) (fun _ _ _ h => h) hH (Or.inl ⟨by kernel_rfl, ?_⟩) ?_
                rotate_left
                · intro wq hq
                  go_simp
                  try rfl
                try simp only [Act.put, List.setIfInBounds_toArray, List.set_cons_zero, List.set_cons_succ]
                refine tkH (v := ?_) (i := 2) rfl (by kernel_rfl) (by kernel_rfl) (by kernel_rfl) (fun _ _ _ h => h) hH (Or.inl ⟨by kernel_rfl, ?_⟩) ?_
                rotate_left
                · intro wq hq
                  go_simp
                  try rfl
                try simp only [Act.put, List.setIfInBounds_toArray, List.set_cons_zero, List.set_cons_succ]
                refine tkH (i := 3) rfl (by kernel_rfl) (by kernel_rfl) (by kernel_rfl) (fun _ _ _ h => h) hH (yld t23 (by kernel_rfl) rfl rfl K rC lK) ?_
                try simp only [Act.put, List.setIfInBounds_toArray, List.set_cons_zero, List.set_cons_succ]
                refine tkH (i := 4) rfl (by kernel_rfl) (by kernel_rfl) (by kernel_rfl) (fun _ _ _ h => h) hH (yld t23 (by kernel_rfl) rfl rfl K r2 lK) ?_
                try simp only [Act.put, List.setIfInBounds_toArray, List.set_cons_zero, List.set_cons_succ]
                refine tkH (i := 5) rfl (by kernel_rfl) (by kernel_rfl) (by kernel_rfl) (fun _ _ _ h => h) hH ((ycmp cmp23 false K K (by kernel_rfl) rfl rfl rfl lK lK HB.out.2.2.1 HB.out.2.2.1).yieldsIf) ?_
                try simp only [Act.put, List.setIfInBounds_toArray, List.set_cons_zero, List.set_cons_succ]
                first | rw [dK] | simp only [decide_true]
                refine tkH (v := ?_) (i := 6) rfl (by kernel_rfl) (by kernel_rfl) (by kernel_rfl) (fun _ _ _ h => h) hH (Or.inl ⟨by kernel_rfl, ?_⟩) ?_
                rotate_left
                · intro wq hq
                  go_simp
                  try rfl
                try simp only [Act.put, List.setIfInBounds_toArray, List.set_cons_zero, List.set_cons_succ]
                refine tkH (v := ?_) (i := 7) rfl (by kernel_rfl) (by kernel_rfl) (by kernel_rfl) (fun _ _ _ h => h) hH (Or.inl ⟨by kernel_rfl, ?_⟩) ?_
                rotate_left
                · intro wq hq
                  go_simp
                  try rfl
                try simp only [Act.put, List.setIfInBounds_toArray, List.set_cons_zero, List.set_cons_succ]
                refine tkH (v := ?_) (i := 8) rfl (by kernel_rfl) (by kernel_rfl) (by kernel_rfl) (fun _ _ _ h => h) hH (Or.inl ⟨by kernel_rfl, ?_⟩) ?_
                rotate_left
                · intro wq hq
                  go_simp
                  try rfl
                try simp only [Act.put, List.setIfInBounds_toArray, List.set_cons_zero, List.set_cons_succ]
                refine tkH (v := ?_) (i := 9) rfl (by kernel_rfl) (by kernel_rfl) (by kernel_rfl) (fun _ _ _ h => h) hH (Or.inl ⟨by kernel_rfl, ?_⟩) ?_
                rotate_left
                · intro wq hq
                  go_simp
                  try rfl
                try simp only [Act.put, List.setIfInBounds_toArray, List.set_cons_zero, List.set_cons_succ]
                refine tkH (v := ?_) (i := 10) rfl (by kernel_rfl) (by kernel_rfl) (by kernel_rfl) (fun _ _ _ h => h) hH (Or.inl ⟨by kernel_rfl, ?_⟩) ?_
                rotate_left
                · intro wq hq
                  go_simp
                  try rfl
                try simp only [Act.put, List.setIfInBounds_toArray, List.set_cons_zero, List.set_cons_succ]
                refine tkH (v := ?_) (i := 11) rfl (by kernel_rfl) (by kernel_rfl) (by kernel_rfl) (fun _ _ _ h => h) hH (Or.inl ⟨by kernel_rfl, ?_⟩) ?_
                rotate_left
                · intro wq hq
                  go_simp
                  try rfl
                try simp only [Act.put, List.setIfInBounds_toArray, List.set_cons_zero, List.set_cons_succ]
                refine tkH (i := 12) rfl (by kernel_rfl) (by kernel_rfl) (by kernel_rfl) (fun _ _ _ h => h) hH (yld t23 (by kernel_rfl) rfl rfl O rD lO) ?_
                try simp only [Act.put, List.setIfInBounds_toArray, List.set_cons_zero, List.set_cons_succ]
                refine tkH (i := 13) rfl (by kernel_rfl) (by kernel_rfl) (by kernel_rfl) (fun _ _ _ h => h) hH (yld t23 (by kernel_rfl) rfl rfl O r3 lO) ?_
                try simp only [Act.put, List.setIfInBounds_toArray, List.set_cons_zero, List.set_cons_succ]
                refine tkH (i := 14) rfl (by kernel_rfl) (by kernel_rfl) (by kernel_rfl) (fun _ _ _ h => h) hH ((ycmp cmp23 false O O (by kernel_rfl) rfl rfl rfl lO lO HB.out.2.2.2 HB.out.2.2.2).yieldsIf) ?_
                try simp only [Act.put, List.setIfInBounds_toArray, List.set_cons_zero, List.set_cons_succ]
                first | rw [dO] | simp only [decide_true]
                refine tkH (v := ?_) (i := 15) rfl (by kernel_rfl) (by kernel_rfl) (by kernel_rfl) (fun _ _ _ h => h) hH (Or.inl ⟨by kernel_rfl, ?_⟩) ?_
                rotate_left
                · intro wq hq
                  go_simp
                  try rfl
                try simp only [Act.put, List.setIfInBounds_toArray, List.set_cons_zero, List.set_cons_succ]
                refine tkH (v := ?_) (i := 16) rfl (by kernel_rfl) (by kernel_rfl) (by kernel_rfl) (fun _ _ _ h => h) hH (Or.inl ⟨by kernel_rfl, ?_⟩) ?_
                rotate_left
                · intro wq hq
                  go_simp
                  try rfl
                try simp only [Act.put, List.setIfInBounds_toArray, List.set_cons_zero, List.set_cons_succ]
                refine tkH (i := 17) rfl (by kernel_rfl) (by kernel_rfl) (by kernel_rfl) (fun _ _ _ h => h) hH (yld t34 (by kernel_rfl) rfl rfl C rX lC) ?_
                try simp only [Act.put, List.setIfInBounds_toArray, List.set_cons_zero, List.set_cons_succ]
                refine tkH (i := 18) rfl (by kernel_rfl) (by kernel_rfl) (by kernel_rfl) (fun _ _ _ h => h) hH (yld t34 (by kernel_rfl) rfl rfl D rY lD) ?_
                try simp only [Act.put, List.setIfInBounds_toArray, List.set_cons_zero, List.set_cons_succ]
                refine tkH (i := 19) rfl (by kernel_rfl) (by kernel_rfl) (by kernel_rfl) (fun _ _ _ h => h) hH ((ycmp cmp34 false C D (by kernel_rfl) rfl rfl rfl lC lD HS.out.2.2.2.1 HS.out.2.2.2.2).yieldsIf) ?_
                try simp only [Act.put, List.setIfInBounds_toArray, List.set_cons_zero, List.set_cons_succ]
                rw [dC]
                refine tkH (i := 20) rfl (by kernel_rfl) (by kernel_rfl) (by kernel_rfl) (fun _ _ _ h => h) hH (yld t23 (by kernel_rfl) rfl rfl K r2 lK) ?_
                try simp only [Act.put, List.setIfInBounds_toArray, List.set_cons_zero, List.set_cons_succ]
                refine tkH (i := 21) rfl (by kernel_rfl) (by kernel_rfl) (by kernel_rfl) (fun _ _ _ h => h) hH (yld t23 (by kernel_rfl) rfl rfl O r3 lO) ?_
                try simp only [Act.put, List.setIfInBounds_toArray, List.set_cons_zero, List.set_cons_succ]
                refine tkH (i := 22) rfl (by kernel_rfl) (by kernel_rfl) (by kernel_rfl) (fun _ _ _ h => h) hH ((ycmp cmp23 false K O (by kernel_rfl) rfl rfl rfl lK lO HB.out.2.2.1 HB.out.2.2.2).yieldsIf) ?_
                try simp only [Act.put, List.setIfInBounds_toArray, List.set_cons_zero, List.set_cons_succ]
                rw [dKO]
                refine tkH (v := ?_) (i := 23) rfl (by kernel_rfl) (by kernel_rfl) (by kernel_rfl) (fun _ _ _ h => h) hH (Or.inl ⟨by kernel_rfl, ?_⟩) ?_
                rotate_left
                · intro wq hq
                  go_simp
                  try rfl
                try simp only [Act.put, List.setIfInBounds_toArray, List.set_cons_zero, List.set_cons_succ]
                refine tkH (v := ?_) (i := 24) rfl (by kernel_rfl) (by kernel_rfl) (by kernel_rfl) (fun _ _ _ h => h) hH (Or.inl ⟨by kernel_rfl, ?_⟩) ?_
                rotate_left
                · intro wq hq
                  go_simp
                  try rfl
                try simp only [Act.put, List.setIfInBounds_toArray, List.set_cons_zero, List.set_cons_succ]
                refine tkH (v := ?_) (i := 25) rfl (by kernel_rfl) (by kernel_rfl) (by kernel_rfl) (fun _ _ _ h => h) hH (Or.inl ⟨by kernel_rfl, ?_⟩) ?_
                rotate_left
                · intro wq hq
                  go_simp
                  try rfl
                try simp only [Act.put, List.setIfInBounds_toArray, List.set_cons_zero, List.set_cons_succ]
                refine wpAnyH_done (by kernel_rfl) ?_ _
                try simp only [Act.put, List.getElem_toArray, List.getElem_cons_zero, List.getElem_cons_succ, List.setIfInBounds_toArray, List.set_cons_zero, List.set_cons_succ]
                replace bW := bW.trans (hH.mono (by have := bW.size; have := HG.out; omega))
                clear hH dK dO dKO dC r0 r1 r2 r3 rX rY rC rD
                go_wp2_with fail
                go_ret
                exact ⟨by simp, by rw [HG.out]; exact bW⟩

set_option maxRecDepth 100000 in
theorem lifted (os : Os) (started : os.Started) (H : Type) (enc : TypeId × Value → H) :
    ReturnsInHanded {} Try.checked os 6 .any (Rows.shareBlindSpec.pre6 enc Try.prog Try.f6 Rows.shareBlindRow.domain false) (Rows.shareBlindSpec.post enc Try.prog Try.f6 false true false false) := by
  refine returnsInHanded_of_change (C := Try.checked) own started (by kernel_rfl) Try.func6
    (ChangeSpec.witness6 (enc := enc) (C := Try.checked) false ⟨#[], #[.agg (Array.replicate 33 (.int .u8 0)), .agg (Array.replicate 33 (.int .u8 0)), .agg (Array.replicate 32 (.int .u8 0)), .agg (Array.replicate 32 (.int .u8 0)), .int .u8 0], []⟩ 8 (by kernel_rfl) (by kernel_rfl) (by kernel_rfl) (by kernel_rfl)) ?_
  intro W base args ds gs before hval0 hW hcnd _
  have hval : ∀ (j : Nat) t v, Try.f6.params[j]? = some t → args[j]? = some v → Value.okWide Try.prog W .any base t v := hval0
  have hW' := hW
  obtain ⟨p, q, hA0, hV, rfl, hfz, hnd⟩ := hW
  have hA : DataW.TrodAll enc Try.prog W 0 (fun _ => true) true Try.f6.params.toList args.toList ds p := hA0
  rw [Try.params6] at hA hval
  obtain ⟨v0, vs0, d0, ds0, p0, q0, hargs, rfl, rfl, h0, r0⟩ := trodAll_cons hA
  obtain ⟨v1, vs1, d1, ds1, p1, q1, rfl, rfl, rfl, h1, r1⟩ := trodAll_cons r0
  obtain ⟨v2, vs2, d2, ds2, p2, q2, rfl, rfl, rfl, h2, r2⟩ := trodAll_cons r1
  obtain ⟨v3, vs3, d3, ds3, p3, q3, rfl, rfl, rfl, h3, r3⟩ := trodAll_cons r2
  obtain ⟨v4, vs4, d4, ds4, p4, q4, rfl, rfl, rfl, h4, r4⟩ := trodAll_cons r3
  obtain ⟨rfl, rfl, rfl⟩ := trodAll_nil r4
  obtain rfl : args = #[v0, v1, v2, v3, v4] := by cases args; simp_all
  obtain ⟨rfl, rfl⟩ := trodVars_none hV
  obtain ⟨K0, rfl, l0, b0⟩ := okShare (hval 0 34 v0 rfl rfl)
  have k0 := h0
  have lt0 : ∀ x ∈ p0, x.block < W.heap.size := by obtain ⟨m, hm⟩ := k0; exact DataW.trod_lt m _ _ _ hm
  obtain ⟨K1, rfl, l1, b1⟩ := okShare (hval 1 34 v1 rfl rfl)
  have k1 := h1
  have lt1 : ∀ x ∈ p1, x.block < W.heap.size := by obtain ⟨m, hm⟩ := k1; exact DataW.trod_lt m _ _ _ hm
  obtain ⟨K2, rfl, l2, b2⟩ := okKey (hval 2 23 v2 rfl rfl)
  have k2 := h2
  have lt2 : ∀ x ∈ p2, x.block < W.heap.size := by obtain ⟨m, hm⟩ := k2; exact DataW.trod_lt m _ _ _ hm
  obtain ⟨K3, rfl, l3, b3⟩ := okKey (hval 3 23 v3 rfl rfl)
  have k3 := h3
  have lt3 : ∀ x ∈ p3, x.block < W.heap.size := by obtain ⟨m, hm⟩ := k3; exact DataW.trod_lt m _ _ _ hm
  obtain ⟨n4, rfl, rfl, rfl, w4⟩ := open_int Try.underlying5 (hval 4 5 v4 rfl rfl) h4
  obtain ⟨m4, rfl, z4⟩ := nat_u8 w4
  clear hA0 hval0
  refine (walk K0 K1 K2 K3 m4 b0 l0 b1 l1 b2 l2 b3 l3 z4 W).mono fun e W' ⟨he, bel⟩ => ?_
  subst he
  exact ⟨_, rfl, _, _, _, [], _, [], hW', trodAll_mk1 (shut_bool Try.underlying4 _), (trodAll_cons_mk (Below.trod laidOut (by kernel_rfl) (of_decide_eq_true (by kernel_rfl)) k0 bel lt0) (trodAll_cons_mk (Below.trod laidOut (by kernel_rfl) (of_decide_eq_true (by kernel_rfl)) k1 bel lt1) (trodAll_cons_mk (Below.trod laidOut (by kernel_rfl) (of_decide_eq_true (by kernel_rfl)) k2 bel lt2) (trodAll_cons_mk (Below.trod laidOut (by kernel_rfl) (of_decide_eq_true (by kernel_rfl)) k3 bel lt3) (trodAll_cons_mk (shut_int Try.underlying5 w4) trodAll_mk0))))), rfl, bel.frame _, fun h => by cases h⟩

theorem over : Rows.shareBlindRow.holds Try.pinned (OpenSpec.ofChange Rows.shareBlindSpec) :=
  OpenClaim.holds_of_wide 6 Try.f6 rfl rfl rfl rfl rfl rfl rfl ⟨rfl, rfl, rfl, rfl, rfl⟩ rfl rfl rfl rfl rfl (by kernel_rfl) Try.func6 (by kernel_rfl)
    (of_decide_eq_true (by kernel_rfl)) (by unfold Func.isWrapper; first | (rw [if_pos (by decide +kernel)]; kernel_rfl) | (rw [if_neg (by decide +kernel)]; exact ⟨rfl, rfl⟩))
    (fun os started H enc _ => lifted os started H enc)

/-- the statement -/
theorem proved : Rows.ShareBlindSaid := over
end Go.Proofs.Ytmnenjgipkopdaa.shareBlind
