/-
  For every program the law ExePages of package exe returns true: each word of it stands in its pages, four bytes a word, each byte of its data behind them; all else is zeros; no condition.
-/
import Derived.Test.YtkbelpkmlmfedaaRows
import Derived.WalkKit
import Derived.ProofKit
import Derived.OpenShut
import Derived.ShutString
import Derived.Test.YtkbelpkmlmfedaaLw
import Derived.Test.YtkbelpkmlmfedaaEf
import Derived.Test.YtkbelpkmlmfedaaEg
namespace Go.Proofs.Ytkbelpkmlmfedaa.exePages
open Go.ChangeShapes Go.WideShapes Go.ChangeAt Go.RowKit
open Go.ChangeMaps (open_string shut_string)
open _root_.Go.Proofs.Ytkbelpkmlmfedaa.Xe
open _root_.Go.Proofs.Ytkbelpkmlmfedaa.Nm
set_option linter.unusedVariables false
set_option linter.unusedSimpArgs false

theorem own : ownKnob Try.prog.godebug = none := by kernel_rfl
theorem word_num {l : List Nat} {i : Nat} (h : i < l.length) (hw : Em.Wd l) : num (pad ⟨(Em.txt l).toArray⟩) (4 * i) 4 = wn l i := by
  have e := text_word h
  have := wn_lt hw h
  unfold num Em.at'
  rw [show List.take 4 (List.drop (4 * i) (toL (pad ⟨(Em.txt l).toArray⟩))) = toL ((pad ⟨(Em.txt l).toArray⟩).extract (4 * i) (4 * i + 4)) from by rw [toL_extract]; congr 1; omega, e]
  rw [show toL (⟨(Nu.putB (wn l i) 4).toArray⟩ : ByteArray) = Nu.putB (wn l i) 4 from by simp [toL], Nu.get_put, Nat.mod_eq_of_lt this]
theorem cb_small (wt : Bool) (L : List Pg) (h : ∀ (i : Nat) (p : Pg), L[i]? = some p → p.d.size = 128) : ∀ k, k ≤ L.length → (cb wt (L.take k)).size ≤ 128 * k := by
  intro k
  induction k with
  | zero => intro _; simp [cb, cl, ByteArray.size]
  | succ k ih =>
    intro hk
    have := ih (by omega)
    rw [cb_next wt L k (by omega)]
    by_cases hw : (L[k]).w = wt
    · have e := h k _ (List.getElem?_eq_getElem (by omega))
      rw [if_pos hw, ByteArray.size_append, e]
      omega
    · rw [if_neg hw]; omega
set_option maxRecDepth 100000 in
set_option maxHeartbeats 4000000 in
theorem walk (x : Xv) (l : List Nat) (hx : x.Ok) (hw : Em.Wd l) (w : World) (hW : Ws w x.a x.n l) :
    Calls Try.prog 6 #[.agg x.cs] w fun e w' => e = .returned (.bool true) ∧ Below w.heap.size w w' := by
  have st0 := Kx.new w x
  obtain ⟨V, hV⟩ : ∃ V, V = w.alloc (Obj.cells x.cs 25) := ⟨_, rfl⟩
  have st := st0
  rw [← hV] at st
  obtain ⟨k0, k1, k2, k3⟩ := st0.k
  have HV := Lib.hid hV
  clear hV st0
  have hg := fun wr => great_any x wr
  by_cases hG : greatB x = true
  · rw [hG] at hg
    clear hG
    obtain ⟨a, n, c, d, r, e⟩ := x
    dsimp only at *
    go_enter Try.func6, Try.ntmps6
    go_wp2_with fail
    change Calls _ _ _ (w.alloc (Obj.cells (Xv.cs _) 25)) _
    rw [← HV.out]
    refine (hg _).mono ?_
    rintro e w1 ⟨rfl, hx1⟩
    replace st := st.below hx1
    go_wp2_with fail
    refine (awake_any _).mono ?_
    rintro e w2 ⟨rfl, hx1⟩
    replace st := st.below hx1
    go_wp2_with fail
    go_ret
    exact ⟨rfl, st.b⟩
  · have hG' : greatB x = false := by simpa using hG
    rw [hG'] at hg
    clear hG hG'
    have hc := fun wr => rcheck_any x hx wr
    by_cases hb : badN x.n x.d.size x.r x.e
    · rw [chkN_bad hb] at hc
      obtain ⟨a, n, c, d, r, e⟩ := x
      dsimp only at *
      go_enter Try.func6, Try.ntmps6
      go_wp2_with fail
      change Calls _ _ _ (w.alloc (Obj.cells (Xv.cs _) 25)) _
      rw [← HV.out]
      clear k0 k1 k2 k3 HV
      refine (hg _).mono ?_
      rintro e w1 ⟨rfl, hx1⟩
      replace st := st.below hx1
      have st' := st
      obtain ⟨⟨k0, k1, k2, k3⟩, -⟩ := st'
      dsimp only at k0 k1 k2 k3
      go_wp2_with fail
      refine (hc _).mono ?_
      rintro e w2 ⟨rfl, hx2⟩
      replace st := st.below hx2
      go_wp2_with fail
      refine (awake_any _).mono ?_
      rintro e w3 ⟨rfl, hx3⟩
      replace st := st.below hx3
      go_wp2_with fail
      go_ret
      exact ⟨rfl, st.b⟩
    · rw [chkN_ok hb] at hc
      have h24 := fun wr (o : Kx w wr x) => lay_any x l hx wr (hW.belowW o.b) hw
      unfold LayIs at h24
      rw [chkN_ok hb] at h24
      have hL : (layL x l).length ≤ 100 := lay_small x l
      have hr0 : 0 ≤ x.r := by unfold badN at hb; omega
      have hr1 : x.r ≤ 1792 := by unfold badN at hb; omega
      have hn1 : x.n ≤ 448 := by unfold badN at hb; omega
      have hd1 : x.d.size ≤ 1792 := by unfold badN at hb; omega
      have hat : ∀ (i : Nat) (p : Pg), (layL x l)[i]? = some p → p.d.size = 128 := by
        intro i p h
        obtain ⟨hi, rfl⟩ := List.getElem?_eq_some_iff.1 h
        exact (lay_at hb hW.1 i hi).2
      have hup : ∀ (i : Nat) (p q : Pg), (layL x l)[i]? = some p → (layL x l)[i + 1]? = some q → p.i < q.i := by
        intro i p q h h'
        obtain ⟨hi, rfl⟩ := List.getElem?_eq_some_iff.1 h
        obtain ⟨hi', rfl⟩ := List.getElem?_eq_some_iff.1 h'
        exact lay_rises hb hW.1 (i + 1) hi' (Nat.succ_pos i)
      have hT := cb_text (l := l) hb hW.1
      have hD := cb_data (l := l) hb
      have zT := pad_size ⟨(Em.txt l).toArray⟩
      have zD := pad_size (x.d ++ zs x.r.toNat)
      rw [txt_size, hW.1] at zT
      rw [ByteArray.size_append, zs_size] at zD
      have hwd := fun i (h : i < l.length) => word_num h hw
      have hrest := text_rest l
      have hfront := data_front x.d x.r.toNat
      have hback := data_rest x.d x.r.toNat
      rw [hW.1] at hrest hwd
      have hsmall := fun wt => cb_small wt (layL x l) hat
      generalize layL x l = L at *
      generalize hTT : pad ⟨(Em.txt l).toArray⟩ = T at *
      generalize hDD : pad (x.d ++ zs x.r.toNat) ++ zs 128 = D at *
      have zD' : D.size = 128 * pn (x.d.size + x.r.toNat) + 128 := by rw [← hDD, ByteArray.size_append, zD, zs_size]
      clear hTT hDD zD
      obtain ⟨a, n, c, d, r, e⟩ := x
      dsimp only at *
      obtain ⟨m, rfl⟩ : ∃ m : Nat, r = (m : Int) := ⟨r.toNat, by omega⟩
      rw [Int.toNat_natCast] at hback zD'
      have p1 : 4 * n ≤ 128 * pn (4 * n) ∧ 128 * pn (4 * n) < 4 * n + 128 := by unfold pn; omega
      have p2 : d.size + m ≤ 128 * pn (d.size + m) ∧ 128 * pn (d.size + m) < d.size + m + 128 := by unfold pn; omega
      rw [← zT] at p1 hrest
      rw [← zD'] at hback
      have p3 : d.size + m + 128 ≤ D.size ∧ D.size ≤ 10000 := by omega
      clear zD' zT p2
      have hLn := hW.1
      have hWW := hW.2
      clear hb hx
      go_enter Try.func6, Try.ntmps6
      go_wp2_with fail
      change Calls _ _ _ (w.alloc (Obj.cells (Xv.cs _) 25)) _
      rw [← HV.out]
      clear k0 k1 k2 k3 HV
      refine (hg _).mono ?_
      rintro e w1 ⟨rfl, hx1⟩
      replace st := st.below hx1
      clear hx1 hg
      have st' := st
      obtain ⟨⟨k0, k1, k2, k3⟩, -⟩ := st'
      dsimp only at k0 k1 k2 k3
      go_wp2_with fail
      clear k0 k1 k2 k3
      refine (hc _).mono ?_
      rintro e w2 ⟨rfl, hx1⟩
      replace st := st.below hx1
      clear hx1 hc
      have st' := st
      obtain ⟨⟨k0, k1, k2, k3⟩, -⟩ := st'
      dsimp only at k0 k1 k2 k3
      go_wp2_with fail
      clear k0 k1 k2 k3
      refine (h24 _ st).mono ?_
      rintro e w3 ⟨⟨A, M, cc, rfl, hr⟩, hx1⟩
      replace st := st.below hx1
      clear hx1 h24
      have hM : M ≤ 100 := by rw [← hr.1]; exact hL
      have HT := Lib.hid hT
      have HD := Lib.hid hD
      have ztD : toL (⟨#[]⟩ : ByteArray) = [] := rfl
      go_wp2_with fail
      go_loopw [5, 6, 7] (fun t d i wr => ∃ k : Nat, k ≤ M ∧ i = .int .i64 k ∧ t = .string (cb false (L.take k)) ∧ d = .string (cb true (L.take k)) ∧ Nm.Dr w3 wr) (fun _ _ i _ => M - (intOf i).toNat)
      case atStart => exact ⟨0, Nat.zero_le _, rfl, rfl, rfl, Nm.Dr.refl _⟩
      case round =>
        obtain ⟨j, hj, rfl, rfl, rfl, hd⟩ := hrel
        by_cases hlt : j < M
        · have hjl : j < L.length := by rw [hr.1]; exact hlt
          have hp : L[j]? = some L[j] := List.getElem?_eq_getElem hjl
          rcases hr.form with ⟨_, h0⟩ | ⟨g, rfl, _, _⟩
          · omega
          obtain ⟨c0, c1, c2⟩ := hr.cells j _ hp
          have z1 := hat j _ hp
          have n1 := cb_next false L j hjl
          have n2 := cb_next true L j hjl
          have s1 := hsmall false j (by omega)
          have s2 := hsmall true j (by omega)
          generalize cb false (L.take j) = t at *
          generalize cb true (L.take j) = u at *
          have m1 : ¬ 9223372036854775807 < t.size + 128 := by omega
          have m2 : ¬ 9223372036854775807 < u.size + 128 := by omega
          have hq : 0 < j → ∃ q : Pg, q.i < L[j].i ∧ w3.cell? ⟨g, (j - 1) * 3, none⟩ = some (.int .i64 (q.i : Nat)) := by
            intro h0
            have hp' : L[j - 1]? = some L[j - 1] := List.getElem?_eq_getElem (by omega)
            exact ⟨_, hup (j - 1) _ _ hp' (by rw [Nat.sub_add_cancel h0]; exact hp), (hr.cells (j - 1) _ hp').1⟩
          generalize L[j] = p at *
          rw [← hd.cell] at c0 c1 c2
          have b1 : (j : Int) < (M : Int) := by omega
          have N1 := Lib.hid n1
          have N2 := Lib.hid n2
          clear hr hp hjl hL hat hup hsmall hT hD n1 n2 hWW hW hwd hrest hfront hback st
          by_cases j0 : j = 0
          · subst j0
            clear hq
            rcases hw' : p.w with _ | _
            · rw [hw'] at c2
              go_wp2_with fail
              go_quiet (fail)
              go_wp2_with fail
              go_roundw
              case rel => exact ⟨1, by omega, by go_num, by rw [N1.out, if_pos hw'], by rw [N2.out, if_neg (by rw [hw']; decide)], hd.drewN _⟩
              case measure => simp [intOf]; omega
            · rw [hw'] at c2
              go_wp2_with fail
              go_quiet (fail)
              go_wp2_with fail
              go_roundw
              case rel => exact ⟨1, by omega, by go_num, by rw [N1.out, if_neg (by rw [hw']; decide)], by rw [N2.out, if_pos hw'], hd.drewN _⟩
              case measure => simp [intOf]; omega
          · obtain ⟨q, hlt', cq⟩ := hq (by omega)
            rw [← hd.cell] at cq
            have e0 : 0 < j := by omega
            have e0b : decide (0 < j) = true := by simp only [e0, decide_true]
            have e1 : IntKind.i64.wrap ((j : Int) - 1) = (j : Int) - 1 := IntWalk.i64_in _ (by omega)
            have e2 : 0 ≤ (j : Int) - 1 := by omega
            have e3 : (j : Int) - 1 < (M : Int) := by omega
            have e4 : ((j : Int) - 1).toNat = j - 1 := by omega
            have e5 : ¬ (p.i : Int) ≤ (q.i : Int) := by omega
            clear hq hlt'
            rcases hw' : p.w with _ | _
            · rw [hw'] at c2
              go_wp2_with fail
              go_quiet (fail)
              go_wp2_with fail
              go_roundw
              case rel => exact ⟨j + 1, by omega, by go_num, by rw [N1.out, if_pos hw'], by rw [N2.out, if_neg (by rw [hw']; decide)], hd.drewN _⟩
              case measure => simp [intOf]; omega
            · rw [hw'] at c2
              go_wp2_with fail
              go_quiet (fail)
              go_wp2_with fail
              go_roundw
              case rel => exact ⟨j + 1, by omega, by go_num, by rw [N1.out, if_neg (by rw [hw']; decide)], by rw [N2.out, if_pos hw'], hd.drewN _⟩
              case measure => simp [intOf]; omega
        · obtain rfl : j = M := by omega
          rw [show L.take j = L from by rw [← hr.1]; exact List.take_length, HT.out, HD.out]
          have st1 : Kx w wr ⟨a, n, c, d, (m : Int), e⟩ := ⟨⟨(hd.cell _).trans st.k.c0, (hd.cell _).trans st.k.c1, (hd.cell _).trans st.k.c2, (hd.cell _).trans st.k.c3⟩, Nm.below_dr st.b hd⟩
          have hWr : Ws wr a n l := hW.belowW st1.b
          have f1 : ¬ (T.size : Int) < 4 * (n : Int) := by omega
          have f2 : ¬ 4 * (n : Int) + 128 ≤ (T.size : Int) := by omega
          have f3 : ¬ (D.size : Int) < (d.size : Int) + (m : Int) + 128 := by omega
          have g1 : 0 ≤ 4 * (n : Int) := by omega
          have g2 : 4 * (n : Int) ≤ (T.size : Int) := by omega
          have g3 : (4 * (n : Int)).toNat = 4 * n := by omega
          have g4 : (d.size : Int) ≤ (D.size : Int) := by omega
          have g5 : (zs (T.size - 4 * n)).size + (zs (D.size - d.size)).size ≤ 100000 := by rw [zs_size, zs_size]; omega
          have g6 : IntKind.i64.wrap (4 * (n : Int)) = 4 * (n : Int) := IntWalk.i64_in _ (by omega)
          have g7 : (n : Int) ≤ 448 := by omega
          have g8 : (d.size : Int) ≤ 1792 := by omega
          have HZ := Lib.hid (zs_app (T.size - 4 * n) (D.size - d.size))
          have HR := Lib.hid hrest
          have HB := Lib.hid hback
          have HF := Lib.hid hfront
          have t1 := Nm.str_yes (rfl : d = d)
          clear hr hL hat hup hsmall hT hD HT HD hWW hrest hback hfront hWr p1 p3 hM hj hLn
          obtain ⟨⟨k0, k1, k2, k3⟩, -⟩ := st1
          dsimp only at k0 k1 k2 k3
          have stb := Nm.below_dr st.b hd
          have hW3 : Ws wr a n l := hW.belowW stb
          clear hW st hd
          go_wp2_with fail
          go_loopw [8] (fun i wq => ∃ k : Nat, k ≤ n ∧ i = .int .i64 k ∧ Nm.Dr wr wq) (fun i _ => n - (intOf i).toNat)
          case atStart => exact ⟨0, Nat.zero_le _, rfl, Nm.Dr.refl _⟩
          case round =>
            obtain ⟨i, hi, rfl, hq⟩ := hrel
            by_cases hlt : i < n
            · obtain ⟨b0, off, rfl, hcell⟩ := hW3.2 (by omega)
              have ci := hcell i hlt
              rw [← hq.cell] at ci
              rw [← hq.cell] at k0 k1 k2 k3
              have hn := fun wr => num_get T (4 * i) 4 wr (by decide) (by omega)
              rw [hwd i hlt] at hn
              have hv : wn l i < 4294967296 := wn_lt hw (by rw [hW3.1]; exact hlt)
              have u1 := u64_id (wn l i) (by omega)
              generalize wn l i = v at *
              have a1 : 0 ≤ 4 * (i : Int) := by omega
              have a2 : 4 * (i : Int) ≤ 4 * (i : Int) + 4 := by omega
              have a3 : 4 * (i : Int) + 4 ≤ (T.size : Int) := by omega
              have a4 : (4 * (i : Int)).toNat = 4 * i := by omega
              have a5 : (4 * (i : Int) + 4).toNat = 4 * i + 4 := by omega
              have a6 : IntKind.i64.wrap (4 * (i : Int)) = 4 * (i : Int) := IntWalk.i64_in _ (by omega)
              have a7 : IntKind.i64.wrap (4 * (i : Int) + 4) = 4 * (i : Int) + 4 := IntWalk.i64_in _ (by omega)
              have a8 : (i : Int) < (n : Int) := by omega
              clear hW3 hcell hwd f1 f2 f3 g1 g2 g3 g4 g5 g6
              go_wp2_with fail
              go_quiet ((go_at_call 26; exact (hn _).mono fun _ _ h => ⟨h.1, _, h.2.symm⟩))
              go_wp2_with fail
              go_roundw
              case rel => exact ⟨i + 1, by omega, by go_num, hq.drewN _⟩
              case measure => simp [intOf]; omega
            · obtain rfl : i = n := by omega
              clear hW3 hwd hw f1 f2 f3
              replace stb := Nm.below_dr stb hq
              rw [← hq.cell] at k0 k1 k2 k3
              have hf := HF.out
              have hr := HR.out
              have hb := HB.out
              generalize hz1 : zs (T.size - 4 * i) = Z1 at *
              generalize hz2 : zs (D.size - d.size) = Z2 at *
              have y1 : ¬ 9223372036854775807 < Z1.size + Z2.size := by omega
              clear HF HR HB hq
              generalize hz3 : zs (T.size - 4 * i + (D.size - d.size)) = Z3 at *
              have hz : ∀ j (h : j < Z3.size), Z3[j] = 0 := by
                subst hz3
                intro j h
                exact zs_at _ _ h
              have z3 : Z3.size ≤ 100000 := by rw [← HZ.out, ByteArray.size_append]; omega
              clear hz1 hz2 hz3
              go_wp2_with fail
              go_quiet (fail)
              go_wp2_with fail
              go_quiet (fail)
              go_wp2_with fail
              rw [HZ.out]
              go_loopw [10] (fun i' wq => ∃ k : Nat, k ≤ Z3.size ∧ i' = .int .i64 k ∧ Nm.Dr wr wq) (fun i' _ => Z3.size - (intOf i').toNat)
              case atStart => exact ⟨0, Nat.zero_le _, rfl, ((Nm.Dr.refl _).drewN _).drewN _⟩
              case round =>
                clear HZ hf hr hb
                obtain ⟨q, hq, rfl, hd⟩ := hrel
                by_cases hlt : q < Z3.size
                · have zq := hz q hlt
                  have a8 : (q : Int) < (Z3.size : Int) := by omega
                  clear hz
                  go_wp2_with fail
                  go_roundw
                  case rel => exact ⟨q + 1, by omega, by go_num, hd⟩
                  case measure => simp [intOf]; omega
                · obtain rfl : q = Z3.size := by omega
                  go_wp2_with fail
                  refine (awake_any _).mono ?_
                  rintro e w9 ⟨rfl, hx1⟩
                  go_wp2_with fail
                  go_ret
                  exact ⟨rfl, (Nm.below_dr stb hd).trans (hx1.mono (Nm.below_dr stb hd).size)⟩

set_option maxRecDepth 100000 in
theorem lifted (os : Os) (started : os.Started) (H : Type) (enc : TypeId × Value → H) :
    ReturnsInHanded {} Try.checked os 6 .any (Rows.exePagesSpec.pre6 enc Try.prog Try.f6 Rows.exePagesRow.domain false) (Rows.exePagesSpec.post enc Try.prog Try.f6 false true false false) := by
  refine returnsInHanded_of_change (C := Try.checked) own started (by kernel_rfl) Try.func6
    (ChangeSpec.witness6 (enc := enc) (C := Try.checked) false ⟨#[], #[.agg #[.slice none 0 0, .string ByteArray.empty, .int .i64 0, .int .u32 0]], []⟩ 8 (by kernel_rfl) (by kernel_rfl) (by kernel_rfl) (by kernel_rfl)) ?_
  intro W base args ds gs before hval0 hW hcnd _
  have hval : ∀ (j : Nat) t v, Try.f6.params[j]? = some t → args[j]? = some v → Value.okWide Try.prog W .any base t v := hval0
  have hW' := hW
  obtain ⟨p, q, hA0, hV, rfl, hfz, hnd⟩ := hW
  have hA : DataW.TrodAll enc Try.prog W 0 (fun _ => true) true Try.f6.params.toList args.toList ds p := hA0
  rw [Try.params6] at hA hval
  obtain ⟨v0, vs0, d0, ds0, p0, q0, hargs, rfl, rfl, h0, r0⟩ := trodAll_cons hA
  obtain ⟨rfl, rfl, rfl⟩ := trodAll_nil r0
  obtain rfl : args = #[v0] := by cases args; simp_all
  obtain ⟨rfl, rfl⟩ := trodVars_none hV
  obtain ⟨x0, l0, rfl, ok0, ws0, wd0⟩ := okExe (hval 0 25 v0 rfl rfl) h0
  have k0 := h0
  have lt0 : ∀ x ∈ p0, x.block < W.heap.size := by obtain ⟨m, hm⟩ := k0; exact DataW.trod_lt m _ _ _ hm
  clear hA0 hval0
  refine (walk x0 l0 ok0 wd0 W ws0).mono fun e W' ⟨he, bel⟩ => ?_
  subst he
  exact ⟨_, rfl, _, _, _, [], _, [], hW', trodAll_mk1 (shut_bool Try.underlying4 _), (trodAll_cons_mk (Below.trod laidOut (by kernel_rfl) (of_decide_eq_true (by kernel_rfl)) k0 bel lt0) trodAll_mk0), rfl, bel.frame _, fun h => by cases h⟩

theorem over : Rows.exePagesRow.holds Try.pinned (OpenSpec.ofChange Rows.exePagesSpec) :=
  OpenClaim.holds_of_wide 6 Try.f6 rfl rfl rfl rfl rfl rfl rfl ⟨rfl, rfl, rfl, rfl, rfl⟩ rfl rfl rfl rfl rfl (by kernel_rfl) Try.func6 (by kernel_rfl)
    (of_decide_eq_true (by kernel_rfl)) (by unfold Func.isWrapper; first | (rw [if_pos (by decide +kernel)]; kernel_rfl) | (rw [if_neg (by decide +kernel)]; exact ⟨rfl, rfl⟩))
    (fun os started H enc _ => lifted os started H enc)

/-- the statement -/
theorem proved : Rows.ExePagesSaid := over
end Go.Proofs.Ytkbelpkmlmfedaa.exePages
