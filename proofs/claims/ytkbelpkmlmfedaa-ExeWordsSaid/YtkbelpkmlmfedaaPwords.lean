/-
  For every row of instructions the law ExeWords of package exe returns true: instructions that are put into a program come out of its first page as the same instructions; no condition.
-/
import Derived.Test.YtkbelpkmlmfedaaRows
import Derived.WalkKit
import Derived.ProofKit
import Derived.OpenShut
import Derived.ShutString
import Derived.Test.YtkbelpkmlmfedaaLw
import Derived.Test.YtkbelpkmlmfedaaEf
import Derived.Test.YtkbelpkmlmfedaaEg
import Derived.Test.YtkbelpkmlmfedaaEh
namespace Go.Proofs.Ytkbelpkmlmfedaa.exeWords
open Go.ChangeShapes Go.WideShapes Go.ChangeAt Go.RowKit
open Go.ChangeMaps (open_string shut_string)
open _root_.Go.Proofs.Ytkbelpkmlmfedaa.Xe
open _root_.Go.Proofs.Ytkbelpkmlmfedaa.Nm
set_option linter.unusedVariables false
set_option linter.unusedSimpArgs false

theorem own : ownKnob Try.prog.godebug = none := by kernel_rfl
/-- what of a space's first words is known -/
theorem words_lay (x : Xv) (l : List Nat) (hn : 1 ≤ x.n) (hm : x.n ≤ 32) (hl : l.length = x.n) (hd : x.d.size = 0) (hr : x.r = 0) (he : x.e = 0) :
    chkN x = 0 ∧ ∃ p q : Pg, layL x l = [p, q] ∧ p.d.size = 128 ∧ p.d = pad ⟨(Em.txt l).toArray⟩ := by
  have e1 : pn (4 * x.n) = 1 := by unfold pn; omega
  have hb : ¬ badN x.n x.d.size x.r x.e := by
    unfold badN
    have := pg_pn (4 * x.n)
    rw [e1, show ((4 * x.n : Nat) : Int) = 4 * (x.n : Int) from by omega] at this
    rw [this, hd, hr, he]
    have : Em.pg (((0 : Nat) : Int) + 0) = 0 := by decide
    rw [this]
    omega
  refine ⟨chkN_ok hb, ?_⟩
  have e2 : pn (x.d.size + x.r.toNat) = 0 := by rw [hd, hr]; rfl
  have z := pad_size ⟨(Em.txt l).toArray⟩
  rw [txt_size, hl, e1] at z
  have e3 : layL x l = [⟨0, (pad ⟨(Em.txt l).toArray⟩).extract 0 128, false⟩, ⟨15, zs 128, true⟩] := by
    rw [layL, if_neg hb, e1, e2]
    rfl
  refine ⟨_, _, e3, ?_, ?_⟩
  · show ((pad _).extract 0 128).size = 128
    rw [ByteArray.size_extract, z]
    rfl
  · show (pad _).extract 0 128 = _
    apply toL_inj
    rw [toL_extract]
    exact List.take_of_length_le (by rw [List.drop_zero, toL_length, z]; decide)
theorem word_num {l : List Nat} {i : Nat} (h : i < l.length) (hw : Em.Wd l) : num (pad ⟨(Em.txt l).toArray⟩) (4 * i) 4 = wn l i := by
  have e := text_word h
  have := wn_lt hw h
  unfold num Em.at'
  rw [show List.take 4 (List.drop (4 * i) (toL (pad ⟨(Em.txt l).toArray⟩))) = toL ((pad ⟨(Em.txt l).toArray⟩).extract (4 * i) (4 * i + 4)) from by rw [toL_extract]; congr 1; omega, e]
  rw [show toL (⟨(Nu.putB (wn l i) 4).toArray⟩ : ByteArray) = Nu.putB (wn l i) 4 from by simp [toL], Nu.get_put, Nat.mod_eq_of_lt this]
/-- the words of instructions -/
def ws (l : List Is.Ins) : List Nat := l.map fun x => (Is.enc x).1
theorem ws_len (l : List Is.Ins) : (ws l).length = l.length := List.length_map _
theorem ws_wd (l : List Is.Ins) : Em.Wd (ws l) := fun y hy => by
  obtain ⟨x, _, rfl⟩ := List.mem_map.1 hy
  exact Is.enc_lt x
theorem ws_next {l : List Is.Ins} {k : Nat} {x : Is.Ins} (h : l[k]? = some x) : ws (l.take (k + 1)) = ws (l.take k) ++ [(Is.enc x).1] := by
  obtain ⟨hk, rfl⟩ := List.getElem?_eq_some_iff.1 h
  unfold ws
  rw [List.map_take, List.map_take, List.take_succ_eq_append_getElem (by simpa using hk), List.getElem_map]
theorem ws_at {l : List Is.Ins} {k : Nat} {x : Is.Ins} (h : l[k]? = some x) : wn (ws l) k = (Is.enc x).1 := by
  obtain ⟨hk, rfl⟩ := List.getElem?_eq_some_iff.1 h
  rw [wn_eq (by rw [ws_len]; exact hk)]
  simp [ws]
set_option maxRecDepth 100000 in
set_option maxHeartbeats 4000000 in
theorem walk (A0 : Option Addr) (n cap0 : Nat) (l : List Is.Ins) (w : World) (hL : Ix w A0 n l) (hok : ∀ x ∈ l, x.Ok) (hm : n ≤ 9223372036854775807) :
    Calls Try.prog 8 #[.slice A0 n cap0] w fun e w' => e = .returned (.bool true) ∧ Below w.heap.size w w' := by
  have early : ∀ wr, Below w.heap.size w wr → Calls Try.prog 16 #[] wr fun e w' => e = .returned (.bool true) ∧ Below w.heap.size w w' := fun wr hb => (awake_any wr).mono fun e w' h => ⟨h.1, hb.trans (h.2.mono hb.size)⟩
  by_cases h32 : 32 < n
  · have d1 : (32 : Int) < (n : Int) := by omega
    clear hL
    go_enter Try.func8, Try.ntmps8
    go_wp2_with fail
    refine (early _ (Below.refl _ _)).mono ?_
    rintro e w2 ⟨rfl, hx1⟩
    go_wp2_with fail
    go_ret
    exact ⟨rfl, hx1⟩
  · have d1 : ¬ (32 : Int) < (n : Int) := by omega
    by_cases h0 : n = 0
    · subst h0
      clear hL
      go_enter Try.func8, Try.ntmps8
      go_wp2_with fail
      refine (early _ (Below.refl _ _)).mono ?_
      rintro e w2 ⟨rfl, hx1⟩
      go_wp2_with fail
      go_ret
      exact ⟨rfl, hx1⟩
    · have d2 : ¬ (n : Int) = 0 := by omega
      have o0 := Own.new w 25 #[.slice none 0 0, .string ⟨#[]⟩, .int .i64 0, .int .u32 0]
      have b0 := grow w (Obj.cells #[.slice none 0 0, .string ⟨#[]⟩, .int .i64 0, .int .u32 0] 25)
      go_enter Try.func8, Try.ntmps8
      go_wp2_with fail
      generalize hg : w.heap.size = g at *
      generalize w.alloc (Obj.cells #[.slice none 0 0, .string ⟨#[]⟩, .int .i64 0, .int .u32 0] 25) = V at *
      go_loopw [4, 5, 6] (fun i _ _ wr => ∃ (k : Nat) (A : Option Addr) (m c : Nat), k ≤ n ∧ i = .int .i64 k ∧ m = k ∧ (∀ x ∈ l.take k, (Is.enc x).2 = 0) ∧ Own wr g 25 #[.slice A m c, .string ⟨#[]⟩, .int .i64 0, .int .u32 0] ∧ RW wr (g + 1) A m c (ws (l.take k)) ∧ Below g w wr) (fun i _ _ _ => n - (intOf i).toNat)
      case atStart => exact ⟨0, none, 0, 0, Nat.zero_le _, rfl, rfl, (fun x hx => by simp at hx), o0, RW.nil _ _, b0⟩
      case round =>
        clear o0 b0
        obtain ⟨k, A, m, c, hk, rfl, rfl, hz, ho, hr, hb⟩ := hrel
        by_cases hlt : m < n
        · have hml : m < l.length := by rw [hL.len]; exact hlt
          have hp : l[m]? = some l[m] := List.getElem?_eq_getElem hml
          have hx := hok _ (List.getElem_mem hml)
          have hLr : Ix wr A0 n l := hL.below (by rw [hg]; exact hb)
          obtain ⟨b, off, rfl, hc⟩ := hLr.c (by omega)
          obtain ⟨c0, c1, c2, c3, c4⟩ := hc m _ hp
          have HW := Lib.hid (ws_next hp)
          have hz2 : (Is.enc l[m]).2 = 0 → ∀ x ∈ l.take (m + 1), (Is.enc x).2 = 0 := by
            intro h0' x hx'
            rw [List.take_succ_eq_append_getElem hml, List.mem_append, List.mem_singleton] at hx'
            rcases hx' with h | rfl
            · exact hz x h
            · exact h0'
          have he := Is2.enc_any l[m] hx wr
          have hv := Is.enc_lt l[m]
          generalize l[m] = x at *
          clear hc hLr hp hz hL hok hx
          generalize (Is.enc x).1 = v at *
          generalize (Is.enc x).2 = ee at *
          go_wp2_with fail
          change Calls _ _ #[.agg (Is2.ic x)] _ _
          refine he.mono ?_
          rintro e w1 ⟨rfl, hx1⟩
          clear he c0 c1 c2 c3 c4
          have hgl := ho.lt
          have ho1 : Own w1 g 25 _ := (hx1.block g ho.lt).trans ho
          have hr1 := hr.below hx1
          have hsg : g ≤ wr.heap.size := by rw [← hg]; exact hb.size
          have hb1 := hb.trans (hx1.mono hsg)
          have hsg1 : g ≤ w1.heap.size := Nat.le_trans hsg hx1.size
          clear ho hr hb
          by_cases hee : ee = 0
          · subst hee
            have c0 := ho1.cell 0
            have HR := Lib.hid (hr1.below (grow w1 (Obj.cells #[wv v] 23)))
            have HO := Lib.hid (ho1.alloc (Obj.cells #[wv v] 23))
            have M1 := Lib.hid ((Own.new w1 23 #[wv v]).cell 0)
            have HB := Lib.hid (show g + 1 ≤ (w1.alloc (Obj.cells #[wv v] 23)).heap.size from Nat.le_trans ho1.lt (grow w1 (Obj.cells #[wv v] 23)).size)
            have HBB := Lib.hid (hb1.trans ((grow w1 (Obj.cells #[wv v] 23)).mono hsg1))
            unfold wv at HR HO M1 HB HBB
            have hz3 := Lib.hid (hz2 rfl)
            clear hz2 hr1 ho1 hb1
            go_wp2_with (at_builtin; refine app_word rfl (.tmp 40) (.tmp 42) rfl (g + 1) A m c _ rfl HR.out w1.heap.size 1 v rfl M1.out (by omega) HB.out _ rfl ?_; intro g2 cap' w3 hr3 hb3; have own3 : Own w3 g 25 _ := (hb3.block g (Nat.lt_succ_self g)).trans HO.out; have f0 := own3.frozen 0; have c1 := own3.cell 0)
            go_roundw
            case rel =>
              refine ⟨m + 1, some ⟨g2, 0, none⟩, m + 1, cap', by omega, by go_num, rfl, hz3.out, ?_, ?_, ?_⟩
              · have := own3.set 0 (.slice (some ⟨g2, 0, none⟩) (m + 1) cap')
                simpa using this
              · rw [HW.out]
                exact hr3.set g 0 (Nat.lt_succ_self g) _
              · exact (HBB.out.trans (hb3.mono (Nat.le_succ g))).setCell (p := ⟨g, 0, none⟩) (Nat.le_refl g) _
            case measure => simp [intOf]; omega
          · have tE : ((ee : Int) != 0) = true := by rw [bne_iff_ne]; omega
            have tE' : ¬ (ee : Int) = 0 := by omega
            clear hz2 hr1
            go_wp2_with fail
            refine (early _ hb1).mono ?_
            rintro e w2 ⟨rfl, hx2⟩
            go_wp2_with fail
            go_ret
            exact ⟨rfl, by rw [hg]; exact hx2⟩
        · obtain rfl : m = n := by omega
          have htk : l.take m = l := by rw [← hL.len]; exact List.take_length
          rw [htk] at hz hr
          have xok : Xv.Ok ⟨A, m, c, ⟨#[]⟩, 0, 0⟩ := ⟨hm, show 0 ≤ 9223372036854775807 by decide, show (-9223372036854775808 : Int) ≤ 0 by decide, show (0 : Int) ≤ 9223372036854775807 by decide, show 0 < 4294967296 by decide⟩
          obtain ⟨hck, p, q, hly, hp1, hp2⟩ := words_lay ⟨A, m, c, ⟨#[]⟩, 0, 0⟩ (ws l) (by show 1 ≤ m; omega) (by show m ≤ 32; omega) (by show (ws l).length = m; rw [ws_len]; exact hL.len) rfl rfl rfl
          have hlay := lay_any ⟨A, m, c, ⟨#[]⟩, 0, 0⟩ (ws l) xok wr hr.ws (ws_wd l)
          unfold LayIs at hlay
          rw [hly, hck] at hlay
          have hnum := fun (i : Nat) (h : i < (ws l).length) => word_num h (ws_wd l)
          rw [← hp2] at hnum
          rw [ws_len, hL.len] at hnum
          have hwn := fun (i : Nat) (x : Is.Ins) (h : l[i]? = some x) => ws_at h
          obtain ⟨c0, c1, c2, c3⟩ : wr.cell? ⟨g, 0, none⟩ = some (.slice A m c) ∧ wr.cell? ⟨g, 1, none⟩ = some (.string ⟨#[]⟩) ∧ wr.cell? ⟨g, 2, none⟩ = some (.int .i64 0) ∧ wr.cell? ⟨g, 3, none⟩ = some (.int .u32 0) := ⟨ho.cell 0, ho.cell 1, ho.cell 2, ho.cell 3⟩
          clear hly hck hp2 htk hr ho xok
          go_wp2_with fail
          change Calls _ _ #[.agg (Xv.cs ⟨A, m, c, ⟨#[]⟩, 0, 0⟩)] _ _
          refine hlay.mono ?_
          rintro e w2 ⟨⟨A2, m2, cc, rfl, hr2⟩, hx2⟩
          have hb2 := hb.trans (hx2.mono (by rw [← hg]; exact hb.size))
          clear hlay c0 c1 c2 c3 hb hx2
          obtain rfl : m2 = 2 := hr2.1.symm
          rcases hr2.form with ⟨_, h0'⟩ | ⟨g', rfl, _, _⟩
          · omega
          obtain ⟨-, d1', -⟩ := hr2.cells 0 p rfl
          simp only [Nat.zero_mul, Nat.zero_add] at d1'
          clear hr2
          obtain ⟨pi, pd, pw⟩ := p
          dsimp only at *
          have hp1' : (pd.size : Int) = 128 := by omega
          go_wp2_with fail
          have hL2 : Ix w2 A0 m l := hL.below (by rw [hg]; exact hb2)
          have zT : m ≤ 32 := by omega
          have hln := hL.len
          clear hL hok hp1'
          go_loopw [9, 10, 11] (fun i _ _ wr => ∃ k : Nat, k ≤ m ∧ i = .int .i64 k ∧ Below w2.heap.size w2 wr) (fun i _ _ _ => m - (intOf i).toNat)
          case atStart => exact ⟨0, Nat.zero_le _, rfl, Below.refl _ _⟩
          case round =>
            obtain ⟨k, hk, rfl, hb3⟩ := hrel
            by_cases hlt : k < m
            · have hp : l[k]? = some l[k] := List.getElem?_eq_getElem (by omega)
              obtain ⟨b, off, rfl, hc⟩ := (hL2.below hb3).c (by omega)
              obtain ⟨c0, c1, c2, c3, c4⟩ := hc k _ hp
              have hz1 := hz _ (List.getElem_mem (show k < l.length by omega))
              have hnk := hnum k hlt
              rw [hwn k _ hp] at hnk
              generalize l[k] = x at *
              have hn := fun wr => num_get pd (4 * k) 4 wr (by decide) (by omega)
              rw [hnk] at hn
              have hv := Is.enc_lt x
              have hd : Is.dec (Is.enc x).1 = (x, true) := Is.dec_enc (Prod.ext rfl hz1)
              have hdec := fun wr => Is2.dec_any (Is.enc x).1 hv wr
              rw [hd] at hdec
              have u1 := u32_id (Is.enc x).1 hv
              have e1 : wr.cell? ⟨g', 1, none⟩ = some (.string pd) := (hb3.cell (World.block_lt_of_cell? _ _ d1')).trans d1'
              have a1 : 0 ≤ 4 * (k : Int) := by omega
              have a2 : 4 * (k : Int) ≤ 4 * (k : Int) + 4 := by omega
              have a3 : 4 * (k : Int) + 4 ≤ (pd.size : Int) := by omega
              have a4 : (4 * (k : Int)).toNat = 4 * k := by omega
              have a5 : (4 * (k : Int) + 4).toNat = 4 * k + 4 := by omega
              have a6 : IntKind.i64.wrap (4 * (k : Int)) = 4 * (k : Int) := IntWalk.i64_in _ (by omega)
              have a7 : IntKind.i64.wrap (4 * (k : Int) + 4) = 4 * (k : Int) + 4 := IntWalk.i64_in _ (by omega)
              clear hc hL2 hp hz hz1 hnk hnum hwn hd d1'
              generalize (Is.enc x).1 = v at *
              go_wp2_with fail
              refine (hn _).mono ?_
              rintro e w4 ⟨rfl, rfl⟩
              go_wp2_with fail
              refine (hdec _).mono ?_
              rintro e w5 ⟨rfl, hx5⟩
              have grow5 := hx5.trans ((grow w5 (Obj.cells (Is2.ic x) 49)).mono hx5.size)
              have f0 := (grow5.cell (World.block_lt_of_cell? _ _ c0)).trans c0
              have f1 := (grow5.cell (World.block_lt_of_cell? _ _ c1)).trans c1
              have f2 := (grow5.cell (World.block_lt_of_cell? _ _ c2)).trans c2
              have f3 := (grow5.cell (World.block_lt_of_cell? _ _ c3)).trans c3
              have f4 := (grow5.cell (World.block_lt_of_cell? _ _ c4)).trans c4
              obtain ⟨q0, q1, q2, q3, q4⟩ := Is2.at_new w5 x 49
              have HB := Lib.hid (hb3.trans (grow5.mono hb3.size))
              clear hn hdec c0 c1 c2 c3 c4 grow5 hx5 hb3 e1
              obtain ⟨xo, xa, xb, xc, xi⟩ := x
              unfold Is2.ic at *
              dsimp only at *
              go_wp2_with fail
              go_quiet (fail)
              go_wp2_with fail
              go_roundw
              case rel => (repeat apply Exists.intro); exact ⟨⟨k + 1, by omega, by go_num, below_drewN HB.out _⟩, rfl⟩
              case measure => simp [intOf]; omega
            · obtain rfl : k = m := by omega
              go_wp2_with fail
              refine (early _ (hb2.trans (hb3.mono (by rw [← hg]; exact hb2.size)))).mono ?_
              rintro e w9 ⟨rfl, hx9⟩
              go_wp2_with fail
              go_ret
              exact ⟨rfl, by rw [hg]; exact hx9⟩

set_option maxRecDepth 100000 in
theorem lifted (os : Os) (started : os.Started) (H : Type) (enc : TypeId × Value → H) :
    ReturnsInHanded {} Try.checked os 8 .any (Rows.exeWordsSpec.pre6 enc Try.prog Try.f8 Rows.exeWordsRow.domain false) (Rows.exeWordsSpec.post enc Try.prog Try.f8 false true false false) := by
  refine returnsInHanded_of_change (C := Try.checked) own started (by kernel_rfl) Try.func8
    (ChangeSpec.witness6 (enc := enc) (C := Try.checked) false ⟨#[], #[.slice none 0 0], []⟩ 8 (by kernel_rfl) (by kernel_rfl) (by kernel_rfl) (by kernel_rfl)) ?_
  intro W base args ds gs before hval0 hW hcnd _
  have hval : ∀ (j : Nat) t v, Try.f8.params[j]? = some t → args[j]? = some v → Value.okWide Try.prog W .any base t v := hval0
  have hW' := hW
  obtain ⟨p, q, hA0, hV, rfl, hfz, hnd⟩ := hW
  have hA : DataW.TrodAll enc Try.prog W 0 (fun _ => true) true Try.f8.params.toList args.toList ds p := hA0
  rw [Try.params8] at hA hval
  obtain ⟨v0, vs0, d0, ds0, p0, q0, hargs, rfl, rfl, h0, r0⟩ := trodAll_cons hA
  obtain ⟨rfl, rfl, rfl⟩ := trodAll_nil r0
  obtain rfl : args = #[v0] := by cases args; simp_all
  obtain ⟨rfl, rfl⟩ := trodVars_none hV
  obtain ⟨a0, len0, cap0, rfl⟩ := okWide_slice Try.underlying45 (hval 0 45 v0 rfl rfl)
  have k0 := h0
  have lt0 : ∀ x ∈ p0, x.block < W.heap.size := by obtain ⟨m, hm⟩ := k0; exact DataW.trod_lt m _ _ _ hm
  obtain ⟨l0, t0, ok0, m0⟩ := okIns h0
  clear hA0 hval0
  refine (walk a0 len0 cap0 l0  W t0 ok0 m0).mono fun e W' ⟨he, bel⟩ => ?_
  subst he
  exact ⟨_, rfl, _, _, _, [], _, [], hW', trodAll_mk1 (shut_bool Try.underlying4 _), (trodAll_cons_mk (Below.trod laidOut (by kernel_rfl) (of_decide_eq_true (by kernel_rfl)) k0 bel lt0) trodAll_mk0), rfl, bel.frame _, fun h => by cases h⟩

theorem over : Rows.exeWordsRow.holds Try.pinned (OpenSpec.ofChange Rows.exeWordsSpec) :=
  OpenClaim.holds_of_wide 8 Try.f8 rfl rfl rfl rfl rfl rfl rfl ⟨rfl, rfl, rfl, rfl, rfl⟩ rfl rfl rfl rfl rfl (by kernel_rfl) Try.func8 (by kernel_rfl)
    (of_decide_eq_true (by kernel_rfl)) (by unfold Func.isWrapper; first | (rw [if_pos (by decide +kernel)]; kernel_rfl) | (rw [if_neg (by decide +kernel)]; exact ⟨rfl, rfl⟩))
    (fun os started H enc _ => lifted os started H enc)

/-- the statement -/
theorem proved : Rows.ExeWordsSaid := over
end Go.Proofs.Ytkbelpkmlmfedaa.exeWords
