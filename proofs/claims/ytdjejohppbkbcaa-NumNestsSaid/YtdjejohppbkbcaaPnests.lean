/-
  For every list of lists of texts the law NumNests of package num returns true and leaves its argument as it was; there is no condition.
-/
import Derived.Test.YtdjejohppbkbcaaRows
import Derived.WalkKit
import Derived.ProofKit
import Derived.OpenShut
import Derived.ShutString
import Derived.SliceStrings
import Derived.SizedLaws
import Derived.Deep.Slices
import Derived.Test.YtdjejohppbkbcaaNa
import Derived.Test.YtdjejohppbkbcaaNs
import Derived.Test.YtdjejohppbkbcaaNk
namespace Go.Proofs.Ytdjejohppbkbcaa.numNests
open Go.ChangeShapes Go.WideShapes Go.ChangeAt Go.RowKit
open Go.ChangeMaps (open_string shut_string)
open Go.Proofs.Ytdjejohppbkbcaa.Nm
set_option linter.unusedVariables false

theorem own : ownKnob Try.prog.godebug = none := by kernel_rfl
theorem laidOut : laidOutB Try.prog = true := by kernel_rfl

/-- a row as one text -/
def rowS (l : List ByteArray) : ByteArray := ⟨(Nu.rowB (l.map toL)).toArray⟩
theorem rowS_size (l : List ByteArray) : (rowS l).size = (Nu.rowB (l.map toL)).length := by rw [← toL_length]; rfl
theorem texts_rowS (l : List ByteArray) (h : ∀ s ∈ l.map toL, s.length < 268435456) (hs : (rowS l).size ≤ 4000000000) (w : World) :
    Calls Try.prog 17 #[.string (rowS l)] w fun e w' => (∃ A c, e = .returned (.tuple #[.slice A l.length c, .int .i64 0]) ∧ Ts w' A l.length l) ∧ Below w.heap.size w w' := by
  refine (texts_any (rowS l) w hs).mono ?_
  rintro e w' ⟨A, c, l', h1, h2, h3, h4⟩
  have e1 : Nu.texts (toL (rowS l)) = (l.map toL, 0) := Nu.texts_row h
  rw [e1] at h1 h3
  have hl' : l' = l := map_toL_inj h3
  subst hl'
  exact ⟨⟨A, c, h1, h2⟩, h4⟩
theorem row_rowS (A : Option Addr) (len cap : Nat) (l : List ByteArray) (w : World) (hl : Ts w A len l) (hsz : room l ≤ 1000000000) (hlen : len ≤ 200000000) :
    Calls Try.prog 16 #[.slice A len cap] w fun e w' => e = .returned (.string (rowS l)) ∧ Below w.heap.size w w' := row_any A len cap l w hl hsz hlen
theorem room_all (M : Nat) : ∀ l : List ByteArray, (∀ s ∈ l, s.size ≤ M) → room l ≤ l.length * (M + 5)
  | [], _ => by simp [room]
  | s :: l, h => by
    have e : room (s :: l) = s.size + 5 + room l := by simp [room]
    have h1 := h s List.mem_cons_self
    have h2 := room_all M l (fun x hx => h x (List.mem_cons_of_mem _ hx))
    rw [e, List.length_cons, Nat.succ_mul]
    omega
/-- the rows' texts -/
def xs (RL : Nat → List ByteArray) (k : Nat) : List ByteArray := (List.range k).map fun i => rowS (RL i)
theorem xs_succ (RL : Nat → List ByteArray) (k : Nat) : xs RL (k + 1) = xs RL k ++ [rowS (RL k)] := by simp [xs, List.range_succ]
theorem xs_length (RL : Nat → List ByteArray) (k : Nat) : (xs RL k).length = k := by simp [xs]
theorem xs_nth (RL : Nat → List ByteArray) (k i : Nat) (h : i < k) : nth (xs RL k) i = rowS (RL i) := by
  rw [nth_eq (by rw [xs_length]; exact h)]; simp [xs]
theorem rowS_small {l : List ByteArray} (h : bulk l ≤ 5000) : (rowS l).size ≤ 25000 := by
  have h1 := room_le_bulk l
  have h2 := rowB_length_le l (by omega)
  rw [rowS_size]
  omega
theorem xs_small {RL : Nat → List ByteArray} {k : Nat} (h : ∀ i, i < k → bulk (RL i) ≤ 5000) : ∀ s ∈ xs RL k, s.size ≤ 25000 := by
  intro s hs
  obtain ⟨i, hi, rfl⟩ := List.mem_map.1 hs
  exact rowS_small (h i (List.mem_range.1 hi))
def Small (RL : Nat → List ByteArray) (k : Nat) : Prop := ∀ i, i < k → bulk (RL i) ≤ 5000
/-- the rows of the argument -/
def Nest (w : World) (A : Option Addr) (len : Nat) (RA : Nat → Option Addr) (RN RC : Nat → Nat) (RL : Nat → List ByteArray) : Prop :=
  (0 < len → ∃ b off, A = some ⟨b, off, none⟩ ∧ ∀ i, i < len → w.cell? ⟨b, off + i, none⟩ = some (.slice (RA i) (RN i) (RC i))) ∧
  ∀ i, i < len → Ts w (RA i) (RN i) (RL i) ∧ RN i ≤ 9223372036854775807 ∧ ∀ k, (nth (RL i) k).size ≤ 4611686018427387904
theorem Nest.below {a b : World} {x : Option Addr} {len : Nat} {RA : Nat → Option Addr} {RN RC : Nat → Nat} {RL : Nat → List ByteArray} (h : Nest a x len RA RN RC RL) (k : Below a.heap.size a b) : Nest b x len RA RN RC RL :=
  ⟨fun h0 => by
    obtain ⟨g, off, e, hc⟩ := h.1 h0
    exact ⟨g, off, e, fun i hi => (k.cell (World.block_lt_of_cell? _ _ (hc i hi))).trans (hc i hi)⟩,
   fun i hi => ⟨(h.2 i hi).1.below k, (h.2 i hi).2⟩⟩
set_option maxRecDepth 100000 in
set_option maxHeartbeats 4000000 in
theorem walk (A : Option Addr) (len cap : Nat) (RA : Nat → Option Addr) (RN RC : Nat → Nat) (RL : Nat → List ByteArray) (w : World) (hl : Nest w A len RA RN RC RL) (hm : len ≤ 9223372036854775807) :
    Calls Try.prog 7 #[.slice A len cap] w fun e w' => e = .returned (.bool true) ∧ Below w.heap.size w w' := by
  by_cases h30 : 30 < len
  · go_enter Try.func7, Try.ntmps7
    go_wp2_with fail
    refine (alive_any _).mono ?_
    rintro e w1 ⟨rfl, hb1⟩
    go_wp2_with fail
    go_ret
    exact ⟨rfl, hb1⟩
  · have h30' : len ≤ 30 := by omega
    clear h30
    go_enter Try.func7, Try.ntmps7
    go_wp2_with fail
    refine (alive_any _).mono ?_
    rintro e w1 ⟨rfl, hb1⟩
    have l1 := hl.below hb1
    go_wp2_with fail
    go_loopw [3, 19] (fun v i wr => ∃ k : Nat, k ≤ len ∧ i = .int .i64 k ∧ ∃ X c, v = .slice X k c ∧ RS wr w1.heap.size X k c (xs RL k) ∧ Small RL k ∧ Below w1.heap.size w1 wr) (fun _ i _ => len - (intOf i).toNat)
    case atStart => exact ⟨0, Nat.zero_le _, rfl, none, 0, rfl, RS.nil _ _, (fun i hi => absurd hi (by omega)), Below.refl _ _⟩
    case round =>
      obtain ⟨k, hk, rfl, X, c, rfl, hr, hsm, hw⟩ := hrel
      by_cases hlt : k < len
      · have lw := l1.below hw
        obtain ⟨b, off, rfl, hc⟩ := lw.1 (by omega)
        have c1 := hc k hlt
        obtain ⟨tk, nk, sk⟩ := lw.2 k hlt
        have SK := Lib.hid sk
        have XS := Lib.hid (xs_succ RL k)
        clear hc sk
        go_wp2_with fail
        refine (long_any _ _ _ (RL k) _ tk nk SK.out).mono ?_
        rintro e w2 ⟨he, rfl⟩
        rcases he with rfl | ⟨rfl, hbulk⟩
        · go_wp2_with fail
          go_ret
          exact ⟨rfl, hb1.trans (hw.mono hb1.size)⟩
        · have hsm2 : Small RL (k + 1) := fun i hi => by
            by_cases h : i = k
            · subst h; exact hbulk
            · exact hsm i (by omega)
          have hrm := room_le_bulk (RL k)
          have hll := len_le_bulk (RL k)
          have hnk : RN k ≤ 5000 := by rw [← tk.1]; omega
          clear hll
          go_wp2_with fail
          refine (row_rowS _ _ _ (RL k) _ tk (by omega) (by omega)).mono ?_
          rintro e w3 ⟨rfl, hb3⟩
          have hw3 := hw.trans (hb3.mono hw.size)
          go_wp2_with (at_builtin; go_must (refine app_text rfl (.tmp 25) (.tmp 28) rfl w1.heap.size X k c (xs RL k) rfl ((hr.below hb3).alloc _) w3.heap.size (rowS (RL k)) 1 rfl (own1 _ _ _) (by omega) ?c3 (w3.heap.size + 1) ?c4 ?_); go_must (case c3 => (have := hw3.size; simp; omega)); go_must (case c4 => simp); intro g cx w4 hp4 hg4 hor4 hbw4)
          go_roundw
          case rel => exact ⟨k + 1, by omega, by go_num, some ⟨g, 0, none⟩, cx, rfl, by rw [XS.out]; exact hp4, hsm2, (hw3.alloc hw3.size _).trans hbw4⟩
          case measure => simp [intOf]; omega
      · obtain rfl : k = len := by omega
        have hxs := xs_small hsm
        have hrm := room_all 25000 (xs RL k) hxs
        rw [xs_length] at hrm
        have hro : room (xs RL k) ≤ 1000000 := by
          have : k * (25000 + 5) ≤ 30 * 25005 := Nat.mul_le_mul h30' (Nat.le_refl _)
          omega
        have hrl := rowB_length_le (xs RL k) (by omega)
        have c2 := texts_rowS (xs RL k) (fun s hs => by
          obtain ⟨x, hx, rfl⟩ := List.mem_map.1 hs
          have := hxs x hx
          rw [toL_length]; omega) (by rw [rowS_size]; omega)
        rw [xs_length] at c2
        have C2 := Lib.hid c2
        have lw := l1.below hw
        clear c2 hrl hrm hxs
        go_wp2_with fail
        refine (row_rowS _ _ _ (xs RL k) _ hr.ts (by omega) (by omega)).mono ?_
        rintro e w3 ⟨rfl, hb3⟩
        have lw3 := lw.below hb3
        have z3 := hw.trans (hb3.mono hw.size)
        go_wp2_with fail
        refine (C2.out _).mono ?_
        rintro e w4 ⟨⟨A4, c4, rfl, t4⟩, hb4⟩
        have lw4 := lw3.below hb4
        have z4 := z3.trans (hb4.mono z3.size)
        go_wp2_with fail
        go_loopw [48] (fun i wr => ∃ j : Nat, j ≤ k ∧ i = .int .i64 j ∧ Below w4.heap.size w4 wr) (fun i _ => k - (intOf i).toNat)
        case atStart => exact ⟨0, Nat.zero_le _, rfl, Below.refl _ _⟩
        case round =>
          obtain ⟨j, hj, rfl, hq⟩ := hrel
          have z5 := z4.trans (hq.mono z4.size)
          by_cases hjl : j < k
          · have t5 := t4.below hq
            have lw5 := lw4.below hq
            obtain ⟨b, off, rfl, hc⟩ := t5.2 (by omega)
            have c1 := hc j hjl
            rw [xs_nth RL k j hjl] at c1
            obtain ⟨b2, off2, rfl, hc2⟩ := lw5.1 (by omega)
            have c5 := hc2 j hjl
            have blk := World.block_lt_of_cell? _ _ c5
            obtain ⟨tj, nj, _⟩ := lw5.2 j hjl
            have hbj := hsm j hjl
            have sS := rowS_small hbj
            have cT := texts_rowS (RL j) (small_of_bulk (by omega)) (by omega)
            have CT := Lib.hid cT
            have hll := len_le_bulk (RL j)
            clear hc hc2 cT
            go_wp2_with fail
            refine (CT.out _).mono ?_
            rintro e w6 ⟨⟨A6, c6, rfl, t6⟩, hb6⟩
            have c7 := (hb6.cell blk).trans c5
            have tj6 := tj.below hb6
            go_wp2_with fail
            refine (same_any _ _ _ _ _ _ (RL j) (RL j) _ t6 tj6 (by omega) nj).mono ?_
            rintro e w7 ⟨rfl, hd7⟩
            go_wp2_with fail
            go_roundw
            case rel => exact ⟨j + 1, by omega, by go_num, below_dr (hq.trans (hb6.mono hq.size)) hd7⟩
            case measure => simp [intOf]; omega
          · obtain rfl : j = k := by omega
            go_wp2_with fail
            go_ret
            exact ⟨rfl, hb1.trans (z5.mono hb1.size)⟩
theorem cells22 : Try.prog.cellsOf 22 = 1 := by kernel_rfl
theorem weights_mem_all {H : Type} (d : DataW H) : ∀ l : List (DataW H), d ∈ l → ∀ n ∈ d.weights Try.prog 22, n ∈ DataW.weightsAll Try.prog 22 l
  | [], h, _, _ => nomatch h
  | x :: l, h, n, hn => by
    rcases List.mem_cons.1 h with rfl | h
    · simp only [DataW.weightsAll, List.mem_append]
      exact .inl hn
    · simp only [DataW.weightsAll, List.mem_append]
      exact .inr (weights_mem_all d l h n hn)
/-- one row of the argument -/
theorem row_arg {H : Type} {enc : TypeId × Value → H} {W : World} {fuel : Nat} {v : Value} {d : DataW H} {p : List MemPlace} (hsz : ∀ n ∈ d.weights Try.prog 22, n ≤ reachBytes)
    (h : DataW.trod enc Try.prog W 0 (fun _ => true) true fuel 22 [v] = some (d, p)) :
    ∃ a len cap l, v = .slice a len cap ∧ Ts W a len l ∧ len ≤ 9223372036854775807 ∧ (∀ k, (nth l k).size ≤ 4611686018427387904) := by
  have hv : ∃ a len cap, v = .slice a len cap := by
    rcases open_strings Try.underlying22 Try.underlying9 cells9 h with ⟨hcs, _⟩ | ⟨x, len', cap', ss, hcs, _⟩
    · exact ⟨_, _, _, by simpa using hcs⟩
    · exact ⟨_, _, _, by simpa using hcs⟩
  obtain ⟨a, len, cap, rfl⟩ := hv
  have hsz' : (DataW.weightsEach Try.prog [22] [d]).all (· ≤ reachBytes) = true := by
    rw [List.all_eq_true]
    intro n hn
    simp only [DataW.weightsEach, List.append_nil] at hn
    simpa using hsz n hn
  obtain ⟨l, h1, h2, h3⟩ := texts_arg (j := 0) hsz' rfl rfl (a := a) (len := len) (cap := cap) ⟨fuel, by simpa [Value.cells] using h⟩
  exact ⟨a, len, cap, l, rfl, h1, h2, h3⟩
theorem nest_arg {H : Type} {enc : TypeId × Value → H} {W : World} {ts : List TypeId} {ds : List (DataW H)} (hsz : (DataW.weightsEach Try.prog ts ds).all (· ≤ reachBytes) = true) {j : Nat} {d : DataW H} {p : List MemPlace}
    (ht : ts[j]? = some 38) (hd : ds[j]? = some d) {a : Option Addr} {len cap : Nat} (h : DataW.Trod enc Try.prog W 0 (fun _ => true) true 38 (Value.slice a len cap) d p) :
    ∃ RA RN RC RL, Nest W a len RA RN RC RL ∧ len ≤ 9223372036854775807 := by
  obtain ⟨fuel, hf⟩ := h
  rcases Go.Deep.open_slice1 Try.underlying38 cells22 hf with ⟨hcs, _⟩ | ⟨x, len', cap', m, n, V, D, Pl, hcs, _, hl, hm, hmm, hx, hcell⟩
  · simp [Value.cells] at hcs
    obtain ⟨rfl, rfl, rfl⟩ := hcs
    exact ⟨fun _ => none, fun _ => 0, fun _ => 0, fun _ => [], ⟨(fun h => absurd h (by omega)), (fun i hi => absurd hi (by omega))⟩, by omega⟩
  · simp [Value.cells] at hcs
    obtain ⟨rfl, rfl, rfl⟩ := hcs
    simp only [if_true] at hmm
    simp only [Prod.mk.injEq] at hx
    obtain ⟨hx, _⟩ := hx
    subst hx
    have each : ∀ i, i < len → ∃ a' len' cap' l, V i = .slice a' len' cap' ∧ Ts W a' len' l ∧ len' ≤ 9223372036854775807 ∧ (∀ k, (nth l k).size ≤ 4611686018427387904) := by
      intro i hi
      refine row_arg (fun nn hn => ?_) (hcell i (by omega)).2
      have h1 : nn ∈ (DataW.slice ((List.range len).map D) ((List.range (m - len)).map fun j => D (len + j))).weights Try.prog 38 := by
        simp only [DataW.weights, Try.underlying38]
        exact List.mem_cons_of_mem _ (List.mem_append_left _ (weights_mem_all (D i) _ (List.mem_map.2 ⟨i, List.mem_range.2 hi, rfl⟩) nn hn))
      simpa using List.all_eq_true.1 hsz _ (DataW.weights_mem_each ht hd _ h1)
    refine ⟨fun i => if h : i < len then (each i h).choose else none, fun i => if h : i < len then (each i h).choose_spec.choose else 0,
      fun i => if h : i < len then (each i h).choose_spec.choose_spec.choose else 0, fun i => if h : i < len then (each i h).choose_spec.choose_spec.choose_spec.choose else [], ⟨fun h0 => ?_, fun i hi => ?_⟩, by unfold maxLen at hm; omega⟩
    · obtain ⟨b, off, spot⟩ := x
      have hspot : spot = none := by simpa [Addr.add] using World.cell?_spot (hcell 0 (by omega)).1
      subst hspot
      refine ⟨b, off, rfl, fun i hi => ?_⟩
      have e := (hcell i (by omega)).1
      rw [addr_add] at e
      have hs := (each i hi).choose_spec.choose_spec.choose_spec.choose_spec.1
      rw [e]
      simp only [dif_pos hi]
      rw [← hs]
    · have hs := (each i hi).choose_spec.choose_spec.choose_spec.choose_spec.2
      simp only [dif_pos hi]
      exact hs
set_option maxRecDepth 100000 in
theorem lifted (os : Os) (started : os.Started) (H : Type) (enc : TypeId × Value → H) :
    ReturnsInHanded {} Try.checked os 7 .any (Rows.numNestsSpec.pre6 enc Try.prog Try.f7 Rows.numNestsRow.domain false) (Rows.numNestsSpec.post enc Try.prog Try.f7 false true false false) := by
  refine returnsInHanded_of_change_sized (C := Try.checked) own started (by kernel_rfl) Try.func7
    (ChangeSpec.witness6 (enc := enc) (C := Try.checked) false ⟨#[], #[.slice none 0 0], []⟩ 8 (by kernel_rfl) (by kernel_rfl) (by kernel_rfl) (by kernel_rfl)) ?_
  intro W base args ds gs before hval0 hW hcnd hsz0 _
  have hval : ∀ (j : Nat) t v, Try.f7.params[j]? = some t → args[j]? = some v → Value.okWide Try.prog W .any base t v := hval0
  have hsz : (DataW.weightsEach Try.prog (Try.f7.params.toList ++ Rows.numNestsSpec.plain.varTypes Try.prog) (ds ++ gs)).all (· ≤ reachBytes) = true := hsz0
  have hW' := hW
  obtain ⟨p, q, hA0, hV, rfl, hfz, hnd⟩ := hW
  have hA : DataW.TrodAll enc Try.prog W 0 (fun _ => true) true Try.f7.params.toList args.toList ds p := hA0
  rw [Try.params7] at hA hval hsz
  obtain ⟨v0, vs0, d0, ds0, p0, q0, hargs, rfl, rfl, h0, r0⟩ := trodAll_cons hA
  obtain ⟨rfl, rfl, rfl⟩ := trodAll_nil r0
  obtain rfl : args = #[v0] := by cases args; simp_all
  obtain ⟨rfl, rfl⟩ := trodVars_none hV
  obtain ⟨a0, len0, cap0, rfl⟩ := okWide_slice Try.underlying38 (hval 0 38 v0 rfl rfl)
  have k0 := h0
  have lt0 : ∀ x ∈ p0, x.block < W.heap.size := by obtain ⟨m, hm⟩ := k0; exact DataW.trod_lt m _ _ _ hm
  obtain ⟨RA, RN, RC, RL, t0, m0⟩ := nest_arg hsz (j := 0) rfl rfl h0
  clear hA0 hval0 hsz0
  refine (walk a0 len0 cap0 RA RN RC RL W t0 m0).mono fun e W' ⟨he, bel⟩ => ?_
  subst he
  exact ⟨_, rfl, _, _, _, [], _, [], hW', trodAll_mk1 (shut_bool Try.underlying4 _), (trodAll_cons_mk (Below.trod laidOut (by kernel_rfl) (of_decide_eq_true (by kernel_rfl)) k0 bel lt0) trodAll_mk0), rfl, bel.frame _, fun h => by cases h⟩

theorem over : Rows.numNestsRow.holds Try.pinned (OpenSpec.ofChange Rows.numNestsSpec) :=
  OpenClaim.holds_of_wide 7 Try.f7 rfl rfl rfl rfl rfl rfl rfl ⟨rfl, rfl, rfl, rfl, rfl⟩ rfl rfl rfl rfl rfl (by kernel_rfl) Try.func7 (by kernel_rfl)
    (of_decide_eq_true (by kernel_rfl)) (by unfold Func.isWrapper; first | (rw [if_pos (by decide +kernel)]; kernel_rfl) | (rw [if_neg (by decide +kernel)]; exact ⟨rfl, rfl⟩))
    (fun os started H enc _ => lifted os started H enc)

/-- the statement -/
theorem proved : Rows.NumNestsSaid := over
end Go.Proofs.Ytdjejohppbkbcaa.numNests
