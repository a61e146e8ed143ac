/-
  For every data and cuts RollFixed answers true: where the least is the most, and where the mask has no bits, all chunks but the last have the least; the arguments read as before.
-/
import Derived.Test.YtingpadjciohjaaRows
import Derived.Test.YtingpadjciohjaaOk
import Derived.WalkKit
import Derived.ProofKit
import Derived.OpenShut
import Derived.ShutString
import Derived.RegionTactic
import Derived.BigRegion
import Derived.BigQuiet
import Derived.Deep.RegionHeld3
import Derived.Test.YtingpadjciohjaaJn
namespace Go.Proofs.Ytingpadjciohjaa.rollFixed
open Go.ChangeShapes Go.WideShapes Go.ChangeAt Go.RowKit
open Go.ChangeMaps (open_string shut_string)
open _root_.Go.Proofs.Ytingpadjciohjaa.Nm
set_option linter.unusedVariables false
set_option linter.unusedSimpArgs false

theorem own : ownKnob Try.prog.godebug = none := by kernel_rfl
theorem own_below {W V : World} {g : Nat} {t : TypeId} {cs : Array Value} (h : Own W g t cs) (hb : Below W.heap.size W V) : Own V g t cs := (hb.block g h.lt).trans h
theorem own_other {W : World} {g : Nat} {t : TypeId} {cs : Array Value} (h : Own W g t cs) (p : Addr) (u : Value) (hp : g ≠ p.block) : Own (W.setCell p u) g t cs := (Below.heap_setCell _ _ _ _ hp).trans h
theorem own_four {W : World} {g : Nat} {w lo hi : Int} {m : Nat} (h : Own W g 24 (cc w lo hi m)) : W.cell? ⟨g, 0, none⟩ = some (.int .i64 w) ∧ W.cell? ⟨g, 1, none⟩ = some (.int .i64 lo) ∧ W.cell? ⟨g, 2, none⟩ = some (.int .i64 hi) ∧ W.cell? ⟨g, 3, none⟩ = some (.int .u32 (m : Nat)) := ⟨h.cell 0, h.cell 1, h.cell 2, h.cell 3⟩
theorem fixed_eq (D : ByteArray) (w lo hi : Int) (m : Nat) (hf : fitI w lo hi) (hf2 : fitI w lo lo) :
    LI D w lo lo m = LI D w lo hi 0 ∧ (LI D w lo hi 0).length = (D.size + lo.toNat - 1) / lo.toNat ∧
      ∀ (l : List ByteArray), l.map toL = LI D w lo hi 0 → ∀ k, k < l.length → (((nth l k).size : Nat) : Int) ≤ lo ∧ (k + 1 < l.length → (((nth l k).size : Nat) : Int) = lo) := by
  obtain ⟨F1, f1, f2, f3⟩ := fit_nat hf 0
  obtain ⟨F2, -, -, -⟩ := fit_nat hf2 m
  have he : LI D w lo lo m = LI D w lo hi 0 := by
    unfold LI
    rw [if_pos hf, if_pos hf2]
    exact Ro.cut_same _ _ F2 F1 rfl (.inr rfl) (.inl rfl) _ _ rfl
  refine ⟨he, ?_, ?_⟩
  · unfold LI
    rw [if_pos hf, Ro.cut_count _ F1 (.inl rfl) _ _ rfl, toL_length]
  · intro l hl k hk
    have hs := Ro.cut_sizes _ F2 _ (toL D) rfl k
    have e2 : Ro.cut ⟨w.toNat, lo.toNat, lo.toNat, m⟩ (toL D) = l.map toL := by rw [hl, ← he]; unfold LI; rw [if_pos hf2]
    rw [e2] at hs
    have hs := hs (by simpa using hk)
    rw [List.getElem_map, toL_length] at hs
    rw [nth_eq hk]
    obtain ⟨q1, q2, q3⟩ := hs
    simp only at q2
    refine ⟨by omega, fun h => ?_⟩
    have := q3 (by rw [List.length_map]; exact h)
    simp only at this
    omega
set_option maxRecDepth 100000 in
set_option maxHeartbeats 4000000 in
theorem walk (D : ByteArray) (w lo hi : Int) (m : Nat) (hD : D.size ≤ maxLen) (hm : m < 4294967296) (W : World) :
    Calls Try.prog 8 #[.string D, .agg (cc w lo hi m)] W fun e w' => e = .returned (.bool true) ∧ Below W.heap.size W w' := by
  unfold maxLen at hD
  have ow := Own.new W 24 (cc w lo hi m)
  have bW := grow W (Obj.cells (cc w lo hi m) 24)
  by_cases hbig : 3000 < D.size
  · have d0 : 3000 < (D.size : Int) := by omega
    go_enter Try.func8, Try.ntmps8
    go_wp2_with fail
    refine (alive_any _).mono ?_
    rintro e w1 ⟨rfl, hb⟩
    replace ow := own_below ow hb
    replace bW := bW.trans (hb.mono bW.size)
    clear hb
    obtain ⟨k0, k1, k2, k3⟩ := own_four ow
    have f1 := ow.frozen 1
    have f2 := ow.frozen 2
    have f3 := ow.frozen 3
    go_wp2_with fail
    go_ret
    exact ⟨rfl, bW⟩
  · have d0 : decide (3000 < (D.size : Int)) = false := by rw [decide_eq_false_iff_not]; omega
    have hs : D.size ≤ 3000 := by omega
    have h3 := fun wr => check_any w lo hi m wr
    clear hbig
    by_cases hf : fitI w lo hi
    · rw [chk_yes hf] at h3
      have hf2 : fitI w lo lo := by obtain ⟨q1, q2, q3, q4, q5⟩ := hf; exact ⟨q1, q2, q3, by omega, by omega⟩
      have h1 : ∀ wr, Calls Try.prog 10 #[.string D, .agg #[.int .i64 w, .int .i64 lo, .int .i64 hi, .int .u32 0]] wr (CutP D w lo hi 0 wr) := fun wr => cutI_any D w lo hi 0 (by decide) (by omega) wr
      have h2 := fun wr => cutI_any D w lo lo m hm (by omega) wr
      unfold CutP at h1 h2
      rw [chk_yes hf] at h1
      rw [chk_yes hf2] at h2
      have HL := Lib.hid (fixed_eq D w lo hi m hf hf2)
      have lo1 : 1 ≤ lo := by have := hf.1; have := hf.2.2.1; omega
      have lo2 : lo ≤ 65536 := hf2.2.2.2.2
      clear hf hf2
      go_enter Try.func8, Try.ntmps8
      go_wp2_with fail
      refine (alive_any _).mono ?_
      rintro e w1 ⟨rfl, hb⟩
      replace ow := own_below ow hb
      replace bW := bW.trans (hb.mono bW.size)
      clear hb
      obtain ⟨k0, k1, k2, k3⟩ := own_four ow
      have f1 := ow.frozen 1
      have f2 := ow.frozen 2
      have f3 := ow.frozen 3
      go_wp2_with fail
      refine (h3 _).mono ?_
      rintro e w2 ⟨rfl, hb⟩
      replace ow := own_below ow hb
      replace bW := bW.trans (hb.mono bW.size)
      clear hb k0 k1 k2 k3 f1 f2 f3 h3
      obtain ⟨k0, k1, k2, k3⟩ := own_four ow
      have f1 := ow.frozen 1
      have f2 := ow.frozen 2
      have f3 := ow.frozen 3
      have l0 := ow.lt
      have n0 : W.heap.size ≠ w2.heap.size := by omega
      have hsz : (w2.setCell ⟨W.heap.size, 3, none⟩ (.int .u32 0)).heap.size = w2.heap.size := by simp [World.setCell]
      have V := (ow.set 3 (.int .u32 0)).alloc (.cells #[Value.int .i64 w, .int .i64 lo, .int .i64 lo, .int .u32 (m : Nat)] 24)
      have Z := Own.new (w2.setCell ⟨W.heap.size, 3, none⟩ (.int .u32 0)) 24 #[Value.int .i64 w, .int .i64 lo, .int .i64 lo, .int .u32 (m : Nat)]
      rw [hsz] at Z
      have B := (bW.setCell (p := ⟨W.heap.size, 3, none⟩) (Nat.le_refl _) (.int .u32 0)).alloc (by rw [hsz]; omega) (.cells #[Value.int .i64 w, .int .i64 lo, .int .i64 lo, .int .u32 (m : Nat)] 24)
      clear bW
      go_wp2_with fail
      generalize hU : (w2.setCell ⟨W.heap.size, 3, none⟩ (.int .u32 0)).alloc (.cells #[Value.int .i64 w, .int .i64 lo, .int .i64 lo, .int .u32 (m : Nat)] 24) = U at V Z B ⊢
      clear hU hsz k0 k1 k2 k3 f1 f2 f3
      refine (h1 _).mono ?_
      rintro e w4 ⟨A, cap, l, rfl, hts, hl, hb, hcp⟩
      replace V := own_below V hb
      replace Z := own_below Z hb
      replace B := B.trans (hb.mono B.size)
      clear hb
      obtain ⟨k0, k1, k2, k3⟩ := own_four Z
      go_wp2_with fail
      refine (h2 _).mono ?_
      rintro e w5 ⟨A1, cap1, l1, rfl, hts1, hl1, hb, hcp1⟩
      replace V := own_below V hb
      replace hts := Ts.below hts hb
      replace B := B.trans (hb.mono B.size)
      clear hb k0 k1 k2 k3 ow Z h1 h2
      have k1 : w5.cell? ⟨W.heap.size, 1, none⟩ = some (.int .i64 lo) := V.cell 1
      obtain rfl : l1 = l := map_toL_inj (hl1.trans (HL.out.1.trans hl.symm))
      clear hl1
      have hl2 : l1.length ≤ 3000 := by
        have := li_len D w lo hi 0
        rw [← hl, List.length_map] at this
        omega
      have hs := same_any A A1 l1.length cap l1.length cap1 l1 l1 w5 hts hts1 (by omega) (by omega)
      rw [decide_eq_true rfl] at hs
      go_wp2_with fail
      refine hs.mono ?_
      rintro e w6 ⟨rfl, hd⟩
      have hb := below_dr (Below.refl w5.heap.size w5) hd
      replace hts := Ts.below hts hb
      replace V := own_below V hb
      replace B := B.trans (hb.mono B.size)
      clear hb hd k1 hs hts1
      have k1 : w6.cell? ⟨W.heap.size, 1, none⟩ = some (.int .i64 lo) := V.cell 1
      have HS := Lib.hid (HL.out.2.2 l1 hl)
      have HC := HL.out.2.1
      rw [← hl, List.length_map] at HC
      clear HL hl
      have HT := Lib.hid hts
      clear hts
      obtain ⟨q, hq⟩ : ∃ q, q = lo.toNat := ⟨_, rfl⟩
      obtain rfl : lo = (q : Int) := by omega
      rw [← hq] at HC
      have q1 : 1 ≤ q := by omega
      have e1 : ((D.size : Int) + (q : Int)) - 1 = ((D.size + q - 1 : Nat) : Int) := by omega
      have e2 : (((D.size + q - 1 : Nat) : Int)).tdiv (q : Int) = (l1.length : Int) := by rw [HC]; rfl
      clear hq HC
      go_wp2_with fail
      generalize hn : l1.length = n at *
      have HN := Lib.hid hn
      clear hn
      go_loop [66] (fun i => ∃ k : Nat, k ≤ n ∧ i = .int .i64 k) (fun i => n - (intOf i).toNat)
      case atStart => exact ⟨0, Nat.zero_le _, rfl⟩
      case round =>
        obtain ⟨k, hk, rfl⟩ := hrel
        by_cases hlt : k < n
        · obtain ⟨b, off, rfl, hc⟩ := HT.out.2 (by omega)
          have c1 := hc k hlt
          have l0 : (k : Int) < (n : Int) := by omega
          obtain ⟨s1, s2⟩ := HS.out k hlt
          generalize nth l1 k = x at *
          have s3 : ¬ (q < x.size) := by omega
          clear hc
          by_cases hl1 : k + 1 < n
          · have s4 : (k : Int) < (n : Int) - 1 := by omega
            have s5 : ((x.size : Int) != (q : Int)) = false := by rw [s2 hl1]; simp
            clear s2 s1
            go_wp2_with fail
            go_round
            case rel => exact ⟨k + 1, by omega, by go_num⟩
            case measure => simp [intOf]; omega
          · have s4 : decide ((k : Int) < (n : Int) - 1) = false := by rw [decide_eq_false_iff_not]; omega
            clear s2 s1
            go_wp2_with fail
            go_round
            case rel => exact ⟨k + 1, by omega, by go_num⟩
            case measure => simp [intOf]; omega
        · obtain rfl : n = k := by omega
          go_wp2_with fail
          go_ret
          exact ⟨rfl, B⟩
    · rw [chk_no hf] at h3
      have h1 := fun wr => cutI_any D w lo hi m hm (by omega) wr
      unfold CutP at h1
      have hL : LI D w lo hi m = [] := by unfold LI; rw [if_neg hf]
      rw [hL, chk_no hf] at h1
      clear hf hL
      go_enter Try.func8, Try.ntmps8
      go_wp2_with fail
      refine (alive_any _).mono ?_
      rintro e w1 ⟨rfl, hb⟩
      replace ow := own_below ow hb
      replace bW := bW.trans (hb.mono bW.size)
      clear hb
      obtain ⟨k0, k1, k2, k3⟩ := own_four ow
      have f1 := ow.frozen 1
      have f2 := ow.frozen 2
      have f3 := ow.frozen 3
      go_wp2_with fail
      refine (h3 _).mono ?_
      rintro e w2 ⟨rfl, hb⟩
      replace ow := own_below ow hb
      replace bW := bW.trans (hb.mono bW.size)
      clear hb k0 k1 k2 k3 f1 f2 f3 h3
      obtain ⟨k0, k1, k2, k3⟩ := own_four ow
      go_wp2_with fail
      refine (h1 _).mono ?_
      rintro e w3 ⟨A, cap, l, rfl, hts, hl, hb, hcp⟩
      obtain rfl : l = [] := by simpa using hl
      replace bW := bW.trans (hb.mono bW.size)
      clear hl hb h1 k0 k1 k2 k3
      go_wp2_with fail
      go_ret
      exact ⟨rfl, bW⟩

set_option maxRecDepth 100000 in
theorem lifted (os : Os) (started : os.Started) (H : Type) (enc : TypeId × Value → H) :
    ReturnsInHanded {} Try.checked os 8 .any (Rows.rollFixedSpec.pre6 enc Try.prog Try.f8 Rows.rollFixedRow.domain false) (Rows.rollFixedSpec.post enc Try.prog Try.f8 false true false false) := by
  refine returnsInHanded_of_change (C := Try.checked) own started (by kernel_rfl) Try.func8
    (ChangeSpec.witness6 (enc := enc) (C := Try.checked) false ⟨#[], #[.string ByteArray.empty, .agg #[.int .i64 0, .int .i64 0, .int .i64 0, .int .u32 0]], []⟩ 8 (by kernel_rfl) (by kernel_rfl) (by kernel_rfl) (by kernel_rfl)) ?_
  intro W base args ds gs before hval0 hW hcnd _
  have hval : ∀ (j : Nat) t v, Try.f8.params[j]? = some t → args[j]? = some v → Value.okWide Try.prog W .any base t v := hval0
  have hW' := hW
  obtain ⟨p, q, hA0, hV, rfl, hfz, hnd⟩ := hW
  have hA : DataW.TrodAll enc Try.prog W 0 (fun _ => true) true Try.f8.params.toList args.toList ds p := hA0
  rw [Try.params8] at hA hval
  obtain ⟨v0, vs0, d0, ds0, p0, q0, hargs, rfl, rfl, h0, r0⟩ := trodAll_cons hA
  obtain ⟨v1, vs1, d1, ds1, p1, q1, rfl, rfl, rfl, h1, r1⟩ := trodAll_cons r0
  obtain ⟨rfl, rfl, rfl⟩ := trodAll_nil r1
  obtain rfl : args = #[v0, v1] := by cases args; simp_all
  obtain ⟨rfl, rfl⟩ := trodVars_none hV
  obtain ⟨a0, rfl, rfl, rfl, w0⟩ := open_string Try.underlying9 (hval 0 9 v0 rfl rfl) h0
  obtain ⟨w1, lo1, hi1, m1, rfl, a1, b1, c1, z1⟩ := okCuts (hval 1 24 v1 rfl rfl)
  have k1 := h1
  have lt1 : ∀ x ∈ p1, x.block < W.heap.size := by obtain ⟨m, hm⟩ := k1; exact DataW.trod_lt m _ _ _ hm
  clear hA0 hval0
  refine (walk a0 w1 lo1 hi1 m1 w0 z1 W).mono fun e W' ⟨he, bel⟩ => ?_
  subst he
  exact ⟨_, rfl, _, _, _, [], _, [], hW', trodAll_mk1 (shut_bool Try.underlying4 _), (trodAll_cons_mk (shut_string Try.underlying9 w0) (trodAll_cons_mk (Below.trod laidOut (by kernel_rfl) (of_decide_eq_true (by kernel_rfl)) k1 bel lt1) trodAll_mk0)), rfl, bel.frame _, fun h => by cases h⟩

theorem over : Rows.rollFixedRow.holds Try.pinned (OpenSpec.ofChange Rows.rollFixedSpec) :=
  OpenClaim.holds_of_wide 8 Try.f8 rfl rfl rfl rfl rfl rfl rfl ⟨rfl, rfl, rfl, rfl, rfl⟩ rfl rfl rfl rfl rfl (by kernel_rfl) Try.func8 (by kernel_rfl)
    (of_decide_eq_true (by kernel_rfl)) (by unfold Func.isWrapper; first | (rw [if_pos (by decide +kernel)]; kernel_rfl) | (rw [if_neg (by decide +kernel)]; exact ⟨rfl, rfl⟩))
    (fun os started H enc _ => lifted os started H enc)

/-- the statement -/
theorem proved : Rows.RollFixedSaid := over
end Go.Proofs.Ytingpadjciohjaa.rollFixed
