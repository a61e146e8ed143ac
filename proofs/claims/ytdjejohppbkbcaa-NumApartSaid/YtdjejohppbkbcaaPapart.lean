/-
  For every two lists of texts and every number the law NumApart of package num returns true and leaves its arguments as they were; there is no condition.
-/
import Derived.Test.YtdjejohppbkbcaaRows
import Derived.WalkKit
import Derived.ProofKit
import Derived.OpenShut
import Derived.ShutString
import Derived.SliceStrings
import Derived.SizedLaws
import Derived.Test.YtdjejohppbkbcaaNa
import Derived.Test.YtdjejohppbkbcaaNs
import Derived.Test.YtdjejohppbkbcaaNk
namespace Go.Proofs.Ytdjejohppbkbcaa.numApart
open Go.ChangeShapes Go.WideShapes Go.ChangeAt Go.RowKit
open Go.ChangeMaps (open_string shut_string)
open Go.Proofs.Ytdjejohppbkbcaa.Nm
set_option linter.unusedVariables false

theorem own : ownKnob Try.prog.godebug = none := by kernel_rfl
theorem laidOut : laidOutB Try.prog = true := by kernel_rfl

theorem str_size (L : List UInt8) : (⟨L.toArray⟩ : ByteArray).size = L.length := by rw [← toL_length]; rfl
theorem row_pos {s : ByteArray} {l : List ByteArray} : 0 < (Nu.rowB ((s :: l).map toL)).length := by
  have := Nu.lenB_pos (toL s).length
  rw [List.map_cons, Nu.rowB_cons, List.length_append, List.length_append]
  omega
theorem bulk_append (a b : List ByteArray) : bulk (a ++ b) = bulk a + bulk b := by simp [bulk, List.sum_append]
/-- what is read of a row that is cut short -/
def CutIs (n : Nat) (e : Ending) (A : Option Addr) (m c : Nat) : Prop := e = .returned (.tuple #[.slice A m c, .int .i64 4]) ∧ m = 0 ∨ e = .returned (.tuple #[.slice A m c, .int .i64 0]) ∧ m < n
set_option maxRecDepth 100000 in
set_option maxHeartbeats 4000000 in
theorem walk (A : Option Addr) (len cap : Nat) (a : List ByteArray) (A' : Option Addr) (len' cap' : Nat) (b : List ByteArray) (cut : Int) (w : World) (hl : Ts w A len a) (hl' : Ts w A' len' b) (hm : len ≤ 9223372036854775807) (hm' : len' ≤ 9223372036854775807)
    (hb : ∀ k, (nth a k).size ≤ 4611686018427387904) (hb' : ∀ k, (nth b k).size ≤ 4611686018427387904) (hn : A = none → cap = 0) (hn' : A' = none → cap' = 0) (w2 : (Lit.int .u16 cut).wf = true) :
    Calls Try.prog 5 #[.slice A len cap, .slice A' len' cap', .int .u16 cut] w fun e w' => e = .returned (.bool true) ∧ Below w.heap.size w w' := by
  have b2 := bounds_u16 w2
  obtain ⟨C, rfl⟩ := Int.eq_ofNat_of_zero_le b2.1
  have hC : C < 65536 := by omega
  have HB := Lib.hid hb
  have HB' := Lib.hid hb'
  have HN := Lib.hid hn
  have HN' := Lib.hid hn'
  clear hb hb' hn hn' w2 b2
  go_enter Try.func5, Try.ntmps5
  go_wp2_with fail
  refine (alive_any _).mono ?_
  rintro e w1 ⟨rfl, hb1⟩
  have l1 := hl.below hb1
  have l1' := hl'.below hb1
  go_wp2_with fail
  refine (long_any _ _ _ a _ l1 hm HB.out).mono ?_
  rintro e w2 ⟨he, rfl⟩
  rcases he with rfl | ⟨rfl, hbulk⟩
  · go_wp2_with fail
    go_ret
    exact ⟨rfl, hb1⟩
  · go_wp2_with fail
    refine (long_any _ _ _ b _ l1' hm' HB'.out).mono ?_
    rintro e w2 ⟨he, rfl⟩
    rcases he with rfl | ⟨rfl, hbulk'⟩
    · go_wp2_with fail
      go_ret
      exact ⟨rfl, hb1⟩
    · have hll := len_le_bulk a
      have hll' := len_le_bulk b
      have hlen : len ≤ 5000 := by rw [← hl.1]; omega
      have hlen' : len' ≤ 5000 := by rw [← hl'.1]; omega
      have hrm := room_le_bulk a
      have hrm' := room_le_bulk b
      have hab2 := bulk_append a b
      have hrm2 := room_le_bulk (a ++ b)
      have hst := rowB_length_le a (by omega)
      have hst' := rowB_length_le b (by omega)
      have hsx := str_size (Nu.rowB (a.map toL))
      have hsy := str_size (Nu.rowB (b.map toL))
      have hinj : a ≠ b → (⟨(Nu.rowB (a.map toL)).toArray⟩ : ByteArray) ≠ ⟨(Nu.rowB (b.map toL)).toArray⟩ := by
        intro h e
        have e2 : Nu.rowB (a.map toL) = Nu.rowB (b.map toL) := congrArg toL e
        exact h (map_toL_inj (Nu.rowB_inj (small_of_bulk (by omega)) (small_of_bulk (by omega)) e2))
      have happ : Nu.rowB ((a ++ b).map toL) = Nu.rowB (a.map toL) ++ Nu.rowB (b.map toL) := by rw [List.map_append, Nu.rowB_append]
      have hcut : ∀ c, c < (Nu.rowB (a.map toL)).length → ∀ w e w', TxPost (ByteArray.extract ⟨(Nu.rowB (a.map toL)).toArray⟩ 0 c) w e w' → (∃ A m c', CutIs a.length e A m c') ∧ Below w.heap.size w w' := by
        rintro c hc w e w' ⟨A, c', l', h1, h2, h3, h4⟩
        have e1 : toL (ByteArray.extract ⟨(Nu.rowB (a.map toL)).toArray⟩ 0 c) = (Nu.rowB (a.map toL)).take c := by
          rw [toL_extract]; rfl
        rw [e1] at h1 h3
        have hln : l'.length = (Nu.texts ((Nu.rowB (a.map toL)).take c)).1.length := by rw [← h3]; simp
        rcases Nu.texts_cut (small_of_bulk (l := a) (by omega)) hc with h5 | ⟨l5, h5, h6⟩
        · rw [h5] at h1 hln
          exact ⟨⟨A, l'.length, c', .inl ⟨h1, by simpa using hln⟩⟩, h4⟩
        · rw [h5] at h1 hln
          refine ⟨⟨A, l'.length, c', .inr ⟨h1, ?_⟩⟩, h4⟩
          rw [hln]
          simpa using h6
      have hpos : 0 < len → 0 < (Nu.rowB (a.map toL)).length := by
        intro h
        rcases a with _ | ⟨s, t⟩
        · have := hl.1; simp at this; omega
        · exact row_pos
      have hzero : len = 0 → (Nu.rowB (a.map toL)).length = 0 := by
        intro h
        have : a = [] := List.eq_nil_of_length_eq_zero (by rw [hl.1]; exact h)
        rw [this]; rfl
      have HINJ := Lib.hid hinj
      have HAPP := Lib.hid happ
      have HCUT := Lib.hid hcut
      have HPOS := Lib.hid hpos
      have HZERO := Lib.hid hzero
      have HLA := Lib.hid hl.1
      have bx : (Nu.rowB (a.map toL)).length ≤ 100000 := by omega
      have bY : (Nu.rowB (b.map toL)).length ≤ 100000 := by omega
      have br : room a ≤ 100000 := by omega
      have br' : room b ≤ 100000 := by omega
      have br2 : room (a ++ b) ≤ 100000 := by omega
      clear hinj happ hcut hpos hzero hst hst' hrm hrm' hrm2 hab2 hll hll' hbulk hbulk' hsx hsy
      go_wp2_with fail
      refine (row_any _ _ _ a _ l1 (by omega) (by omega)).mono ?_
      rintro e w3 ⟨rfl, hb3⟩
      have l3 := l1.below hb3
      have l3' := l1'.below hb3
      go_wp2_with fail
      refine (row_any _ _ _ b _ l3' (by omega) (by omega)).mono ?_
      rintro e w4 ⟨rfl, hb4⟩
      have l4 := l3.below hb4
      have l4' := l3'.below hb4
      have z3 := hb1.trans (hb3.mono hb1.size)
      have z4 := z3.trans (hb4.mono z3.size)
      have r0 : RS (w4.alloc (.cells #[] 9)) w4.heap.size (some ⟨w4.heap.size, 0, none⟩) 0 0 [] := RS.empty (Own.new _ _ _) (Nat.le_refl _)
      have q0 : Below w4.heap.size w4 (w4.alloc (.cells #[] 9)) := (Below.refl _ _).alloc (Nat.le_refl _) _
      have hxyb : a = b → Nu.rowB (a.map toL) = Nu.rowB (b.map toL) := fun h => by rw [h]
      have HXYB := Lib.hid hxyb
      clear hxyb
      generalize hX : Nu.rowB (a.map toL) = X at *
      generalize hY : Nu.rowB (b.map toL) = Y at *
      clear hX hY
      go_wp2_with (first | (at_builtin; refine app_texts rfl (.tmp 24) (.tmp 25) rfl w4.heap.size w4.heap.size 0 0 [] rfl r0 A len cap a rfl (l4.below q0) HN.out (by omega) ?c3 (w4.heap.size + 1) ?c4 ?_; go_must (case c3 => simp); go_must (case c4 => simp); intro g1 cp1 w5 hr5 hg5 hor5 hb5; have tok1 : Below w4.heap.size w4 w5 := q0.trans hb5; have hr5' : RS w5 w4.heap.size (some ⟨g1, 0, none⟩) len cp1 a := (by simpa using hr5)) | (at_builtin; go_must (refine app_texts rfl (.tmp 26) (.tmp 27) rfl w4.heap.size g1 len cp1 a rfl hr5' A' len' cap' b rfl (l4'.below tok1) HN'.out (by omega) ?d3 w5.heap.size ?d4 ?_); go_must (case d3 => exact tok1.size); go_must (case d4 => rfl); intro g2 cp2 w6 hr6 hg6 hor6 hb6))
      have tok2 : Below w4.heap.size w4 w6 := tok1.trans hb6
      have l6 := l4.below tok2
      have l6' := l4'.below tok2
      have z6 := z4.trans (tok2.mono z4.size)
      have tXY : ∀ X Y : List UInt8, (X ++ Y == ((⟨X.toArray⟩ : ByteArray) ++ ⟨Y.toArray⟩).toList) = true := fun X Y => by rw [str_app, Go.ByteArray.toList_eq]; simp
      have TXY := Lib.hid tXY
      clear tXY
      have c5 : ∀ w, Ts w (some ⟨g2, 0, none⟩) (len + len') (a ++ b) → Calls Try.prog 16 #[.slice (some ⟨g2, 0, none⟩) (len + len') cp2] w fun e w' => e = .returned (.string ⟨(X ++ Y).toArray⟩) ∧ Below w.heap.size w w' := by
        intro w hw
        have h := row_any _ _ cp2 (a ++ b) w hw (by omega) (by omega)
        rw [HAPP.out] at h
        exact h
      have C5 := Lib.hid c5
      have hne : a ≠ b → (X == Y) = false := fun h => by rw [beq_eq_false_iff_ne]; intro e; exact HINJ.out h (by rw [e])
      have hx0 : len = 0 → ((X.length : Int) == 0) = true := fun h => by rw [HZERO.out h]; rfl
      have hx1 : ¬ len = 0 → ((X.length : Int) == 0) = false := fun h => by
        have := HPOS.out (by omega)
        rw [beq_eq_false_iff_ne]; omega
      have HNE := Lib.hid hne
      have HX0 := Lib.hid hx0
      have HX1 := Lib.hid hx1
      clear c5 hne hx0 hx1 hor5 hor6 hg5 hg6 hr5 hr5' tok1 tok2 hb6 q0 r0
      go_wp2_with fail
      refine (same_any _ _ _ _ _ _ a b _ l6 l6' (by omega) (by omega)).mono ?_
      rintro e w7 ⟨rfl, hd7⟩
      have z7 := below_dr z6 hd7
      by_cases hab : a = b
      all_goals
        first
          | (have tab := HNE.out hab; have hdec : decide (a = b) = false := decide_eq_false hab; have HAB := Lib.hid hab; clear hab; rw [hdec])
          | (have hdec : decide (a = b) = true := decide_eq_true hab; rw [hdec]; have hxy : X = Y := HXYB.out hab; clear hab; subst hxy)
        have tx := TXY.out
        clear hdec
        go_wp2_with fail
        refine (C5.out _ (hr6.ts.dr hd7)).mono ?_
        rintro e w8 ⟨rfl, hb8⟩
        have z8 := z7.trans (hb8.mono z7.size)
        by_cases h0 : len = 0
        · have t0 := HX0.out h0
          have t1 : ((len : Int) == 0) = true := by rw [h0]; rfl
          clear h0
          go_wp2_with fail
          go_ret
          exact ⟨rfl, z8⟩
        · have t0 := HX1.out h0
          have hp := HPOS.out (by omega)
          clear h0
          have hmod : C % X.length < X.length := Nat.mod_lt _ hp
          have hxs : (ByteArray.extract (⟨X.toArray⟩ : ByteArray) 0 (C % X.length)).size ≤ 4000000000 := by
            rw [← toL_length, toL_extract]
            have : ((List.drop 0 (toL (⟨X.toArray⟩ : ByteArray))).take (C % X.length - 0)).length ≤ C % X.length - 0 := List.length_take_le _ _
            omega
          have HXS := Lib.hid hxs
          have HCT := Lib.hid (HCUT.out (C % X.length) hmod)
          have HLL := Lib.hid HLA.out
          clear hxs
          go_wp2_with fail
          refine (texts_any _ _ HXS.out).mono ?_
          rintro e w9 h
          obtain ⟨⟨A9, m9, c9, he⟩, hb9⟩ := HCT.out _ _ _ h
          clear h
          have z9 := z8.trans (hb9.mono z8.size)
          rcases he with ⟨rfl, hm9⟩ | ⟨rfl, hm9⟩
          · subst hm9
            go_wp2_with fail
            go_ret
            exact ⟨rfl, z9⟩
          · rw [HLL.out] at hm9
            go_wp2_with fail
            go_ret
            exact ⟨rfl, z9⟩
theorem texts_nil {H : Type} {enc : TypeId × Value → H} {W : World} {d : DataW H} {p : List MemPlace} {a : Option Addr} {len cap : Nat}
    (h : DataW.Trod enc Try.prog W 0 (fun _ => true) true 22 (Value.slice a len cap) d p) : a = none → cap = 0 := by
  rintro rfl
  obtain ⟨fuel, hf⟩ := h
  rcases open_strings Try.underlying22 Try.underlying9 cells9 hf with ⟨hcs, _⟩ | ⟨x, len', cap', ss, hcs, _⟩
  · simp [Value.cells] at hcs
    exact hcs.2
  · simp [Value.cells] at hcs
set_option maxRecDepth 100000 in
theorem lifted (os : Os) (started : os.Started) (H : Type) (enc : TypeId × Value → H) :
    ReturnsInHanded {} Try.checked os 5 .any (Rows.numApartSpec.pre6 enc Try.prog Try.f5 Rows.numApartRow.domain false) (Rows.numApartSpec.post enc Try.prog Try.f5 false true false false) := by
  refine returnsInHanded_of_change_sized (C := Try.checked) own started (by kernel_rfl) Try.func5
    (ChangeSpec.witness6 (enc := enc) (C := Try.checked) false ⟨#[], #[.slice none 0 0, .slice none 0 0, .int .u16 0], []⟩ 8 (by kernel_rfl) (by kernel_rfl) (by kernel_rfl) (by kernel_rfl)) ?_
  intro W base args ds gs before hval0 hW hcnd hsz0 _
  have hval : ∀ (j : Nat) t v, Try.f5.params[j]? = some t → args[j]? = some v → Value.okWide Try.prog W .any base t v := hval0
  have hsz : (DataW.weightsEach Try.prog (Try.f5.params.toList ++ Rows.numApartSpec.plain.varTypes Try.prog) (ds ++ gs)).all (· ≤ reachBytes) = true := hsz0
  have hW' := hW
  obtain ⟨p, q, hA0, hV, rfl, hfz, hnd⟩ := hW
  have hA : DataW.TrodAll enc Try.prog W 0 (fun _ => true) true Try.f5.params.toList args.toList ds p := hA0
  rw [Try.params5] at hA hval hsz
  obtain ⟨v0, vs0, d0, ds0, p0, q0, hargs, rfl, rfl, h0, r0⟩ := trodAll_cons hA
  obtain ⟨v1, vs1, d1, ds1, p1, q1, rfl, rfl, rfl, h1, r1⟩ := trodAll_cons r0
  obtain ⟨v2, vs2, d2, ds2, p2, q2, rfl, rfl, rfl, h2, r2⟩ := trodAll_cons r1
  obtain ⟨rfl, rfl, rfl⟩ := trodAll_nil r2
  obtain rfl : args = #[v0, v1, v2] := by cases args; simp_all
  obtain ⟨rfl, rfl⟩ := trodVars_none hV
  obtain ⟨a0, len0, cap0, rfl⟩ := okWide_slice Try.underlying22 (hval 0 22 v0 rfl rfl)
  have k0 := h0
  have lt0 : ∀ x ∈ p0, x.block < W.heap.size := by obtain ⟨m, hm⟩ := k0; exact DataW.trod_lt m _ _ _ hm
  obtain ⟨l0, t0, m0, s0⟩ := texts_arg hsz (j := 0) rfl rfl h0
  have n0 := texts_nil h0
  obtain ⟨a1, len1, cap1, rfl⟩ := okWide_slice Try.underlying22 (hval 1 22 v1 rfl rfl)
  have k1 := h1
  have lt1 : ∀ x ∈ p1, x.block < W.heap.size := by obtain ⟨m, hm⟩ := k1; exact DataW.trod_lt m _ _ _ hm
  obtain ⟨l1, t1, m1, s1⟩ := texts_arg hsz (j := 1) rfl rfl h1
  have n1 := texts_nil h1
  obtain ⟨a2, rfl, rfl, rfl, w2⟩ := open_int Try.underlying32 (hval 2 32 v2 rfl rfl) h2
  clear hA0 hval0 hsz0
  refine (walk a0 len0 cap0 l0 a1 len1 cap1 l1 a2 W t0 t1 m0 m1 s0 s1 n0 n1 w2).mono fun e W' ⟨he, bel⟩ => ?_
  subst he
  exact ⟨_, rfl, _, _, _, [], _, [], hW', trodAll_mk1 (shut_bool Try.underlying4 _), (trodAll_cons_mk (Below.trod laidOut (by kernel_rfl) (of_decide_eq_true (by kernel_rfl)) k0 bel lt0) (trodAll_cons_mk (Below.trod laidOut (by kernel_rfl) (of_decide_eq_true (by kernel_rfl)) k1 bel lt1) (trodAll_cons_mk (shut_int Try.underlying32 w2) trodAll_mk0))), rfl, bel.frame _, fun h => by cases h⟩

theorem over : Rows.numApartRow.holds Try.pinned (OpenSpec.ofChange Rows.numApartSpec) :=
  OpenClaim.holds_of_wide 5 Try.f5 rfl rfl rfl rfl rfl rfl rfl ⟨rfl, rfl, rfl, rfl, rfl⟩ rfl rfl rfl rfl rfl (by kernel_rfl) Try.func5 (by kernel_rfl)
    (of_decide_eq_true (by kernel_rfl)) (by unfold Func.isWrapper; first | (rw [if_pos (by decide +kernel)]; kernel_rfl) | (rw [if_neg (by decide +kernel)]; exact ⟨rfl, rfl⟩))
    (fun os started H enc _ => lifted os started H enc)

/-- the statement -/
theorem proved : Rows.NumApartSaid := over
end Go.Proofs.Ytdjejohppbkbcaa.numApart
