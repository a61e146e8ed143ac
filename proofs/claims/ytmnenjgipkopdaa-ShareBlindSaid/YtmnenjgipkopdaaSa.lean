/-
  THE WALK of what holds two rows of shares against each other.
-/
import Derived.Test.YtmnenjgipkopdaaSs
import Derived.StillTailTactics
namespace Go.Proofs.Ytmnenjgipkopdaa
open Go.RowKit
set_option linter.unusedVariables false
set_option linter.unusedSimpArgs false
theorem exec_ld {ty : TypeId} {n : Nat} (T : AggT ty n) {ρ : Operand → Value} {o : Oper} {w : World} {x : Operand} {b f : Nat} {l : List Nat} (ho : o.op = .load ty x) (hx : ρ x = .pointer (some ⟨b, f, none⟩)) (hg : Rg w b f l) (hl : l.length = n) :
    (execOp ρ o).run Try.prog w = .ok (.value (.agg (vs l))) w := by
  obtain ⟨d, hu, hr, _⟩ := T.und
  have h := run_loadVar_mid (P := Try.prog) w b f ty (vl l) d hg hu hr (by rw [T.siz, vl_length, hl])
  unfold execOp
  simp only [ho, hx, Instr.loadAt, Instr.sureAddr, Sem.run_bind, Sem.run_pure, Result.andThen_ok, h]
  rfl
theorem still_ld {ty : TypeId} {n : Nat} (T : AggT ty n) {ops : Array Oper} {rest : List Oper} {o : Oper} {a : Act} {w : World} {Q : Act → Prop} {x : Operand} {b f : Nat} {l : List Nat} (hw : Region.wanted o (yielded ops a.tmps) = true)
    (ho : o.op = .load ty x) (hx : a.eval x = .pointer (some ⟨b, f, none⟩)) (hg : Rg w b f l) (hl : l.length = n) (h : wpStill Try.prog ops w Q rest (a.put o.dst (.agg (vs l)))) : wpStill Try.prog ops w Q (o :: rest) a :=
  wpStill_step fun K hK => by
    rw [if_pos hw]
    unfold Oper.still
    rw [exec_ld T ho hx hg hl, Oper.stillUpon_value]
    exact hK _ h
theorem still_cmp {t : TypeId} {c : Nat} (T : CmpT t c) (neq : Bool) {ops : Array Oper} {rest : List Oper} {o : Oper} {a : Act} {w : World} {Q : Act → Prop} {p q : Operand} {u : TypeId} (x y : List Nat)
    (hw : Region.wanted o (yielded ops a.tmps) = true) (ho : o.op = .binOp (if neq then .neq else .eql) t p q u) (hp : a.eval p = .agg (vs x)) (hq : a.eval q = .agg (vs y))
    (hx : x.length = c) (hy : y.length = c) (bx : Gf.Bytes x) (by' : Gf.Bytes y) (h : wpStill Try.prog ops w Q rest (a.put o.dst (.bool (decide (x = y) != neq)))) : wpStill Try.prog ops w Q (o :: rest) a :=
  wpStill_step fun K hK => by
    rw [if_pos hw]
    unfold Oper.still
    rw [exec_cmp T neq hx hy bx by' w a.eval p q hp hq o ho, Oper.stillUpon_value]
    exact hK _ h
theorem nthL_ext {l m : List (List Nat)} (h : l.length = m.length) (e : ∀ i, i < l.length → nthL l i = nthL m i) : l = m := by
  apply List.ext_getElem?
  intro i
  by_cases hi : i < l.length
  · rw [nthL_get hi, nthL_get (by omega), e i hi]
  · rw [List.getElem?_eq_none (by omega), List.getElem?_eq_none (by omega)]
set_option maxRecDepth 100000 in
set_option maxHeartbeats 2000000 in
theorem same_any (A A' : Option Addr) (n n' cap cap' : Nat) (l m : List (List Nat)) (w : World) (hl : Ss w A n l) (hm : Ss w A' n' m) (hn : n ≤ 1000000) (hn' : n' ≤ 1000000) :
    Calls Try.prog 13 #[.slice A n cap, .slice A' n' cap'] w fun e w' => e = .returned (.bool (decide (l = m))) ∧ Dr w w' := by
  have HL := Lib.hid hl
  have HM := Lib.hid hm
  clear hl hm
  by_cases hnn : n = n'
  · subst hnn
    go_enter Try.func13, Try.ntmps13
    go_wp2_with fail
    go_loopw [5] (fun i wr => ∃ k : Nat, k ≤ n ∧ i = .int .i64 k ∧ (∀ j, j < k → nthL l j = nthL m j) ∧ Dr w wr) (fun i _ => n - (intOf i).toNat)
    case atStart => exact ⟨0, by omega, rfl, fun j hj => absurd hj (by omega), Dr.refl w⟩
    case round =>
      obtain ⟨k, hk, rfl, heq, hd⟩ := hrel
      have HE := Lib.hid heq
      clear heq
      by_cases hlt : k < n
      · have i0 : (k : Int) < (n : Int) := by omega
        obtain ⟨b, o, rfl, hr⟩ := HL.out.2.2 (by omega)
        obtain ⟨b', o', rfl, hr'⟩ := HM.out.2.2 (by omega)
        have rx := (rg_at (n := n) (fun s hs => (HL.out.2.1 s hs).1) hr (i := k) (by rw [HL.out.1]; exact hlt)).dr (hd.drew)
        have ry := (rg_at (n := n) (fun s hs => (HM.out.2.1 s hs).1) hr' (i := k) (by rw [HM.out.1]; exact hlt)).dr (hd.drew)
        have lx := HL.out.len hlt
        have ly := HM.out.len hlt
        have bx := HL.out.byt hlt
        have by' := HM.out.byt hlt
        clear hr hr'
        generalize hX : nthL l k = X at *
        generalize hY : nthL m k = Y at *
        have HX := Lib.hid (And.intro hX hY)
        clear hX hY
        go_wp2_with fail
        refine wp_region_still_tail 8 (by kernel_rfl) (by kernel_rfl) ?_
        simp only [List.take_succ_cons, List.take_zero, List.drop_succ_cons, List.drop_zero]
        have hd1 := hd.drew
        change wpStill _ _ wr.drew (fun a' => wpList _ _ _ _ a' wr.drew) _ _
        generalize wr.drew = w2 at *
        repeat (first | (refine still_ld t34 rfl rfl rfl rx lx ?_) | (refine still_ld t34 rfl rfl rfl ry ly ?_) | still_step)
        refine wpStill_nil ?_
        change wpList _ _ _ _ _ w2
        by_cases hxy : X = Y
        · have e1 : decide (X = Y) = true := decide_eq_true hxy
          have HXY := Lib.hid hxy
          clear hxy
          refine cmpw cmp34 true X Y rfl rfl rfl rfl lx ly bx by' ?_
          rw [e1]
          clear e1
          go_wp2_with fail
          go_roundw
          case rel => exact ⟨k + 1, by omega, by go_num, (fun j hj => by
            by_cases h : j < k
            · exact HE.out j h
            · obtain rfl : j = k := by omega
              rw [HX.out.1, HX.out.2]; exact HXY.out), hd1⟩
          case measure => first | (simp [intOf]; done) | (simp [intOf]; omega)
        · have e1 : decide (X = Y) = false := decide_eq_false hxy
          have HXY := Lib.hid hxy
          clear hxy
          refine cmpw cmp34 true X Y rfl rfl rfl rfl lx ly bx by' ?_
          rw [e1]
          clear e1
          go_wp2_with fail
          go_ret
          refine ⟨?_, hd1⟩
          rw [decide_eq_false (fun h : l = m => HXY.out (by rw [← HX.out.1, ← HX.out.2, h]))]; rfl
      · obtain rfl : n = k := by omega
        have i0 : decide ((n : Int) < (n : Int)) = false := by simp
        go_wp2_with fail
        go_ret
        refine ⟨?_, hd⟩
        rw [decide_eq_true (nthL_ext (HL.out.1.trans HM.out.1.symm) (fun i hi => HE.out i (by rw [HL.out.1] at hi; exact hi)))]; rfl
  · have t1 : ((n : Int) != (n' : Int)) = true := by rw [bne_iff_ne]; omega
    have HN := Lib.hid hnn
    clear hnn
    go_enter Try.func13, Try.ntmps13
    go_wp2_with fail
    go_ret
    refine ⟨?_, Dr.refl w⟩
    rw [decide_eq_false (fun h : l = m => HN.out (by rw [← HL.out.1, ← HM.out.1, h]))]; rfl
end Go.Proofs.Ytmnenjgipkopdaa
