/-
  THE WALKS of a digest read from a text, of the code and of the document's answer.
-/
import Derived.Test.YtaabefafafdndaaDoorHx
import Derived.Test.YtaabefafafdndaaDoorRo
import Derived.BigQuiet
namespace Go.Proofs.YtaabefafafdndaaDoor
open Go.RowKit
/-- a sign's number; less than nought: none -/
def hz (b : Nat) : Int := if 48 ≤ b ∧ b ≤ 57 then (b : Int) - 48 else if 97 ≤ b ∧ b ≤ 102 then (b : Int) - 97 + 10 else -1
theorem hz_lt (b : Nat) : hz b < 16 ∧ -1 ≤ hz b := by unfold hz; constructor <;> (repeat' split) <;> omega
def fit (t : List Nat) (i : Nat) : Bool := decide (0 ≤ hz (Bl.nth t (2 * i))) && decide (0 ≤ hz (Bl.nth t (2 * i + 1)))
def val (t : List Nat) (i : Nat) : Nat := (16 * hz (Bl.nth t (2 * i)) + hz (Bl.nth t (2 * i + 1))).toNat
def vals (t : List Nat) : List Nat := (List.range 32).map (val t)
/-- is a text a digest's? -/
def isD (t : List Nat) : Bool := t.length == 64 && (List.range 32).all fun i => fit t i
def ofD (t : List Nat) : List Nat := if isD t then vals t else List.replicate 32 0
theorem vals_length (t : List Nat) : (vals t).length = 32 := by simp [vals]
theorem vals_nth (t : List Nat) {i : Nat} (h : i < 32) : Bl.nth (vals t) i = val t i := by
  rw [Bl.nth_lt (by rw [vals_length]; exact h)]; simp [vals]
theorem ofD_length (t : List Nat) : (ofD t).length = 32 := by unfold ofD; split; exact vals_length t; simp
theorem idx_all : ∀ b, b < 256 → Lib.indexByte SG.data.toList b.toUInt8 = hz b := by decide +kernel
theorem ixb_any (b : Nat) (hb : b < 256) (w : World) : Calls Tryd.prog 29 #[.string ⟨#[48, 49, 50, 51, 52, 53, 54, 55, 56, 57, 97, 98, 99, 100, 101, 102]⟩, .int .u8 (b : Int)] w fun e w' => e = .returned (.int .i64 (hz b)) ∧ w = w' := by
  refine (Tryd.strings_IndexByte SG b w).mono ?_
  rintro e w' ⟨rfl, rfl⟩
  exact ⟨by rw [← idx_all b hb]; rfl, rfl⟩
theorem half_any (b : Nat) (hb : b < 256) (w : World) : Calls Tryd.prog 30 #[.int .u8 (b : Int)] w fun e w' => e = .returned (.int .i64 (hz b)) ∧ w = w' := by
  go_enter Tryd.func30, Tryd.ntmps30
  by_cases h1 : 48 ≤ b
  · by_cases h2 : b ≤ 57
    · have g1 : 48 ≤ (b : Int) := by omega
      have g2 : (b : Int) ≤ 57 := by omega
      have e1 : IntKind.i64.wrap ((b : Int) - 48) = (b : Int) - 48 := IntWalk.i64_in _ (by omega)
      go_wp2_with fail
      go_ret
      exact ⟨by simp [hz, h1, h2], rfl⟩
    · have g1 : 48 ≤ (b : Int) := by omega
      have g2 : decide ((b : Int) ≤ 57) = false := by simp; omega
      by_cases h3 : 97 ≤ b
      · by_cases h4 : b ≤ 102
        · have g3 : 97 ≤ (b : Int) := by omega
          have g4 : (b : Int) ≤ 102 := by omega
          have e1 : IntKind.i64.wrap ((b : Int) - 97) = (b : Int) - 97 := IntWalk.i64_in _ (by omega)
          have e2 : IntKind.i64.wrap ((b : Int) - 97 + 10) = (b : Int) - 97 + 10 := IntWalk.i64_in _ (by omega)
          go_wp2_with fail
          go_ret
          exact ⟨by simp [hz, h1, h2, h3, h4], rfl⟩
        · have g3 : 97 ≤ (b : Int) := by omega
          have g4 : decide ((b : Int) ≤ 102) = false := by simp; omega
          go_wp2_with fail
          go_ret
          exact ⟨by simp [hz, h2, h4], rfl⟩
      · have g3 : decide (97 ≤ (b : Int)) = false := by simp; omega
        go_wp2_with fail
        go_ret
        exact ⟨by simp [hz, h2, h3], rfl⟩
  · have g1 : decide (48 ≤ (b : Int)) = false := by simp; omega
    have g3 : decide (97 ≤ (b : Int)) = false := by simp; omega
    have h3 : ¬ 97 ≤ b := by omega
    go_wp2_with fail
    go_ret
    exact ⟨by simp [hz, h1, h3], rfl⟩
theorem ret_two {ty : TypeId} {n : Nat} (T : ArrT ty n) {fn : Func} {p u : Tmp} {R : Ending → World → Prop} {a : Act} {w : World} {g : Nat} {t : TypeId} {k : IntKind} {l : List Nat} {v : Value}
    (hr : fn.results = #[.cell p ty, .tmp u]) (hp : a.tmps.getD p undef = .pointer (some ⟨g, 0, none⟩)) (hv : a.tmps.getD u undef = v) (hg : Own w g t (vs k l)) (hl : l.length = n) (hd : a.defers = [])
    (hR : R (.returned (.tuple #[.agg (vs k l), v])) w) : bodyPost Tryd.prog fn R .ret a w := by
  obtain ⟨e, hu⟩ := T.und
  refine bodyPost_ret (v := .tuple #[.agg (vs k l), v]) ?_ hd hR
  have hp' : a.tmps[p]?.getD undef = .pointer (some ⟨g, 0, none⟩) := by simpa using hp
  have hv' : a.tmps[u]?.getD undef = v := by simpa using hv
  simp [results, hr, hp', hv', asAddr, run_loadVar_row w g t ty (vs k l) (0, 0) _ hg hu rfl (by rw [T.siz, vs_size, hl])]
theorem isD_all {t : List Nat} (l : t.length = 64) (h : ∀ i, i < 32 → fit t i = true) : isD t = true := by
  unfold isD
  rw [l]
  simp only [beq_self_eq_true, Bool.true_and, List.all_eq_true, List.mem_range]
  exact h
theorem isD_not {t : List Nat} {i : Nat} (hi : i < 32) (h : fit t i = false) : isD t = false := by
  unfold isD
  rw [Bool.and_eq_false_iff]
  right
  rw [List.all_eq_false]
  exact ⟨i, List.mem_range.2 hi, by rw [h]; decide⟩
set_option maxRecDepth 100000 in
set_option maxHeartbeats 1000000 in
theorem of_any (s : ByteArray) (w : World) : Calls Tryd.prog 16 #[.string s] w fun e w' => e = .returned (.tuple #[.agg (vs .u8 (ofD (tn s))), .bool (isD (tn s))]) ∧ Below w.heap.size w w' := by
  obtain ⟨W0, hW0⟩ : ∃ W0, W0 = (w.alloc (Obj.cells (vs .u8 (List.replicate 32 0)) 24)).alloc (Obj.cells (vs .u8 (List.replicate 32 0)) 24) := ⟨_, rfl⟩
  have o0 : Own W0 w.heap.size 24 (vs .u8 (List.replicate 32 0)) := by rw [hW0]; exact (Own.new _ _ _).alloc _
  have o1 : Own W0 (w.heap.size + 1) 24 (vs .u8 (prn 32 (vals (tn s)) 0)) := by rw [hW0, prn_zero]; exact Own.new' _ _ _ (by simp)
  have hb : Below w.heap.size w W0 := by rw [hW0]; exact ((Below.refl _ w).alloc (Nat.le_refl _) _).alloc (by simp) _
  have lV := vals_length (tn s)
  have HW0 := Lib.hid hW0
  clear hW0
  by_cases h64 : s.size = 64
  · have hsI : (s.size : Int) = 64 := by omega
    have lT : (tn s).length = 64 := by rw [tn_length]; exact h64
    have htn := fun i (h : i < s.size) => tn_get s h
    have hby := tn_by s
    have HT := Lib.hid (And.intro htn (And.intro hby lT))
    clear htn hby lT
    go_enter Tryd.func16, Tryd.ntmps16
    go_wp2_with fail
    change Code.wp _ _ _ _ ((w.alloc (Obj.cells (vs .u8 (List.replicate 32 0)) 24)).alloc (Obj.cells (vs .u8 (List.replicate 32 0)) 24))
    rw [← HW0.out]
    clear HW0
    generalize hBB : w.heap.size = B at *
    go_loopw [12] (fun i' wr => ∃ k : Nat, k ≤ 32 ∧ (∀ i, i < k → fit (tn s) i = true) ∧ i' = .int .i64 k ∧ Own wr (B + 1) 24 (vs .u8 (prn 32 (vals (tn s)) k)) ∧ Only (B + 1) W0 wr) (fun i _ => 32 - (intOf i).toNat)
    case atStart => exact ⟨0, by omega, fun i h => absurd h (by omega), rfl, o1, Only.refl _ _⟩
    case round =>
      clear o1
      obtain ⟨k, hk, hfit, rfl, oD, ho⟩ := hrel
      generalize wr = wo at *
      by_cases hlt : k < 32
      · have hki : (k : Int) < 32 := by omega
        have n0 : s[2 * k].toNat = Bl.nth (tn s) (2 * k) := HT.out.1 _ (by omega)
        have n1 : s[2 * k + 1].toNat = Bl.nth (tn s) (2 * k + 1) := HT.out.1 _ (by omega)
        have e0 : IntKind.i64.wrap (2 * (k : Int)) = 2 * (k : Int) := IntWalk.i64_in _ (by omega)
        have e1 : IntKind.i64.wrap (2 * (k : Int) + 1) = 2 * (k : Int) + 1 := IntWalk.i64_in _ (by omega)
        have j0 : 2 * (k : Int) < 64 := by omega
        have j1 : 2 * (k : Int) + 1 < 64 := by omega
        have m0 : (2 * (k : Int)).toNat = 2 * k := by omega
        have m1 : (2 * (k : Int) + 1).toNat = 2 * k + 1 := by omega
        have ha := HT.out.2.1.nth (2 * k)
        have hb2 := HT.out.2.1.nth (2 * k + 1)
        have hF : fit (tn s) k = (decide (0 ≤ hz (Bl.nth (tn s) (2 * k))) && decide (0 ≤ hz (Bl.nth (tn s) (2 * k + 1)))) := rfl
        have hV : Bl.nth (vals (tn s)) k = (16 * hz (Bl.nth (tn s) (2 * k)) + hz (Bl.nth (tn s) (2 * k + 1))).toNat := vals_nth _ hlt
        have za := hz_lt (Bl.nth (tn s) (2 * k))
        have zb := hz_lt (Bl.nth (tn s) (2 * k + 1))
        have ca := fun w => ixb_any _ ha w
        have cb := fun w => ixb_any _ hb2 w
        have ZX : ∃ x y : Int, x = hz (Bl.nth (tn s) (2 * k)) ∧ y = hz (Bl.nth (tn s) (2 * k + 1)) := ⟨_, _, rfl, rfl⟩
        obtain ⟨x, y, hx, hy⟩ := ZX
        rw [← hx] at hF hV za ca
        rw [← hy] at hF hV zb cb
        obtain ⟨u, hu⟩ : ∃ u, u = Bl.nth (tn s) (2 * k) := ⟨_, rfl⟩
        obtain ⟨v, hv⟩ : ∃ v, v = Bl.nth (tn s) (2 * k + 1) := ⟨_, rfl⟩
        rw [← hu] at ca n0
        rw [← hv] at cb n1
        have oR := ho.own o0 (by omega)
        have cd := oD.cell (i := k) (by rw [prn_length lV hk]; exact hlt)
        have zd := oD.frozen k
        obtain ⟨z, hz'⟩ : ∃ z, z = Bl.nth (vals (tn s)) k := ⟨_, rfl⟩
        have s1 := oD.set k z
        have h1 := ho.set k (.int .u8 (z : Nat))
        rw [hz', prn_next lV hlt, ← hz'] at s1
        rw [← hz'] at hV
        have HX := Lib.hid (And.intro hF (And.intro hV (And.intro hx (And.intro hy (And.intro hu hv)))))
        have HFIT := Lib.hid hfit
        clear hF hV hx hy hu hv hz' hfit ha hb2 za zb
        have zx := hz_lt u
        have zy := hz_lt v
        rw [HX.out.2.2.2.2.1] at zx
        rw [HX.out.2.2.2.2.2] at zy
        rw [← HX.out.2.2.1] at zx
        rw [← HX.out.2.2.2.1] at zy
        by_cases hx0 : 0 ≤ x
        · have x0 : decide (x < 0) = false := by simp; omega
          by_cases hy0 : 0 ≤ y
          · have y0 : decide (y < 0) = false := by simp; omega
            have e2 : IntKind.i64.wrap (16 * x) = 16 * x := IntWalk.i64_in _ (by omega)
            have e3 : IntKind.i64.wrap (16 * x + y) = 16 * x + y := IntWalk.i64_in _ (by omega)
            have e4 : IntKind.u8.wrap (16 * x + y) = (z : Int) := by rw [HX.out.2.1, IntWalk.u8_in _ (by omega)]; omega
            have hF : fit (tn s) k = true := by rw [HX.out.1]; simp [hx0, hy0]
            have HG := Lib.hid hF
            clear hF
            go_wp2_with (first | (go_at_call 29; refine (ca _).mono ?_; rintro e w2 ⟨rfl, rfl⟩) | (go_at_call 29; refine (cb _).mono ?_; rintro e w2 ⟨rfl, rfl⟩))
            go_roundw
            case rel => exact ⟨k + 1, by omega, fun i hi => (by by_cases h : i < k; exact HFIT.out i h; obtain rfl : i = k := (by omega); exact HG.out), by go_num, s1, h1⟩
            case measure => simp [intOf]; omega
          · have y0 : y < 0 := by omega
            have hF : fit (tn s) k = false := by rw [HX.out.1]; simp [hy0]
            have eD : isD (tn s) = false := isD_not hlt hF
            have eO : ofD (tn s) = List.replicate 32 0 := by unfold ofD; rw [eD]; rfl
            have HG := Lib.hid (And.intro eD eO)
            clear hF eD eO
            go_wp2_with (first | (go_at_call 29; refine (ca _).mono ?_; rintro e w2 ⟨rfl, rfl⟩) | (go_at_call 29; refine (cb _).mono ?_; rintro e w2 ⟨rfl, rfl⟩) | (refine sto (k := .u8) (l := List.replicate 32 0) t24 rfl rfl rfl rfl oR (by simp) (by simp) ?_))
            refine ret_two (v := .bool false) t24 rfl rfl rfl (oR.row _) (by simp) rfl ⟨by rw [HG.out.1, HG.out.2]; rfl, by (try rw [hBB]); exact below_row (hb.trans (ho.below (by omega))) (by omega) _⟩
        · have x0 : x < 0 := by omega
          have hF : fit (tn s) k = false := by rw [HX.out.1]; simp [hx0]
          have eD : isD (tn s) = false := isD_not hlt hF
          have eO : ofD (tn s) = List.replicate 32 0 := by unfold ofD; rw [eD]; rfl
          have HG := Lib.hid (And.intro eD eO)
          clear hF eD eO
          go_wp2_with (first | (go_at_call 29; refine (ca _).mono ?_; rintro e w2 ⟨rfl, rfl⟩) | (go_at_call 29; refine (cb _).mono ?_; rintro e w2 ⟨rfl, rfl⟩) | (refine sto (k := .u8) (l := List.replicate 32 0) t24 rfl rfl rfl rfl oR (by simp) (by simp) ?_))
          refine ret_two (v := .bool false) t24 rfl rfl rfl (oR.row _) (by simp) rfl ⟨by rw [HG.out.1, HG.out.2]; rfl, by (try rw [hBB]); exact below_row (hb.trans (ho.below (by omega))) (by omega) _⟩
      · obtain rfl : k = 32 := by omega
        simp only [show ((32 : Nat) : Int) = 32 from rfl]
        rw [prn_all lV] at oD
        have oR := ho.own o0 (by omega)
        have eD : isD (tn s) = true := isD_all HT.out.2.2 hfit
        have eO : ofD (tn s) = vals (tn s) := by unfold ofD; rw [eD]; rfl
        go_wp2_with (first | (refine ld t24 rfl rfl rfl oD lV ?_) | (refine sto t24 rfl rfl rfl rfl oR (by simp) lV ?_))
        refine ret_two (v := .bool true) t24 rfl rfl rfl (oR.row _) lV rfl ⟨by rw [eD, eO], by rw [hBB]; exact below_row (hb.trans (ho.below (by omega))) (by omega) _⟩
  · have hsI : decide ((s.size : Int) = 64) = false := by simp; omega
    have hnb : (!decide ((s.size : Int) = 64)) = true := by rw [hsI]; rfl
    have eD : isD (tn s) = false := by unfold isD; rw [tn_length]; simp [h64]
    have eO : ofD (tn s) = List.replicate 32 0 := by unfold ofD; rw [eD]; rfl
    rw [prn_zero, ← HW0.out.symm] at o1
    rw [← HW0.out.symm] at o0 hb
    have oR := o0.row (vs .u8 (List.replicate 32 0))
    have hR := below_row hb (Nat.le_refl _) (vs .u8 (List.replicate 32 0))
    go_enter Tryd.func16, Tryd.ntmps16
    go_wp2_with (first | (refine ld t24 rfl rfl rfl o1 (by simp) ?_) | (refine sto (k := .u8) (l := List.replicate 32 0) t24 rfl rfl rfl rfl o0 (by simp) (by simp) ?_))
    exact ret_two (v := .bool false) t24 rfl rfl rfl oR (by simp) rfl ⟨by rw [eD, eO], hR⟩
set_option maxRecDepth 100000 in
set_option maxHeartbeats 1000000 in
theorem rof_any (s : ByteArray) (w : World) : Calls Tryd.prog 18 #[.string s] w fun e w' => e = .returned (.tuple #[.agg (vs .u8 (ofD (tn s))), .bool (isD (tn s))]) ∧ Below w.heap.size w w' := by
  obtain ⟨W0, hW0⟩ : ∃ W0, W0 = (w.alloc (Obj.cells (vs .u8 (List.replicate 32 0)) 24)).alloc (Obj.cells (vs .u8 (List.replicate 32 0)) 24) := ⟨_, rfl⟩
  have o0 : Own W0 w.heap.size 24 (vs .u8 (List.replicate 32 0)) := by rw [hW0]; exact (Own.new _ _ _).alloc _
  have o1 : Own W0 (w.heap.size + 1) 24 (vs .u8 (prn 32 (vals (tn s)) 0)) := by rw [hW0, prn_zero]; exact Own.new' _ _ _ (by simp)
  have hb : Below w.heap.size w W0 := by rw [hW0]; exact ((Below.refl _ w).alloc (Nat.le_refl _) _).alloc (by simp) _
  have lV := vals_length (tn s)
  have HW0 := Lib.hid hW0
  clear hW0
  by_cases h64 : s.size = 64
  · have hsI : (s.size : Int) = 64 := by omega
    have lT : (tn s).length = 64 := by rw [tn_length]; exact h64
    have htn := fun i (h : i < s.size) => tn_get s h
    have hby := tn_by s
    have HT := Lib.hid (And.intro htn (And.intro hby lT))
    clear htn hby lT
    go_enter Tryd.func18, Tryd.ntmps18
    go_wp2_with fail
    change Code.wp _ _ _ _ ((w.alloc (Obj.cells (vs .u8 (List.replicate 32 0)) 24)).alloc (Obj.cells (vs .u8 (List.replicate 32 0)) 24))
    rw [← HW0.out]
    clear HW0
    generalize hBB : w.heap.size = B at *
    go_loopw [5] (fun i' wr => ∃ k : Nat, k ≤ 32 ∧ (∀ i, i < k → fit (tn s) i = true) ∧ i' = .int .i64 k ∧ Own wr (B + 1) 24 (vs .u8 (prn 32 (vals (tn s)) k)) ∧ Only (B + 1) W0 wr) (fun i _ => 32 - (intOf i).toNat)
    case atStart => exact ⟨0, by omega, fun i h => absurd h (by omega), rfl, o1, Only.refl _ _⟩
    case round =>
      clear o1
      obtain ⟨k, hk, hfit, rfl, oD, ho⟩ := hrel
      generalize wr = wo at *
      by_cases hlt : k < 32
      · have hki : (k : Int) < 32 := by omega
        have n0 : s[2 * k].toNat = Bl.nth (tn s) (2 * k) := HT.out.1 _ (by omega)
        have n1 : s[2 * k + 1].toNat = Bl.nth (tn s) (2 * k + 1) := HT.out.1 _ (by omega)
        have e0 : IntKind.i64.wrap (2 * (k : Int)) = 2 * (k : Int) := IntWalk.i64_in _ (by omega)
        have e1 : IntKind.i64.wrap (2 * (k : Int) + 1) = 2 * (k : Int) + 1 := IntWalk.i64_in _ (by omega)
        have j0 : 2 * (k : Int) < 64 := by omega
        have j1 : 2 * (k : Int) + 1 < 64 := by omega
        have m0 : (2 * (k : Int)).toNat = 2 * k := by omega
        have m1 : (2 * (k : Int) + 1).toNat = 2 * k + 1 := by omega
        have ha := HT.out.2.1.nth (2 * k)
        have hb2 := HT.out.2.1.nth (2 * k + 1)
        have hF : fit (tn s) k = (decide (0 ≤ hz (Bl.nth (tn s) (2 * k))) && decide (0 ≤ hz (Bl.nth (tn s) (2 * k + 1)))) := rfl
        have hV : Bl.nth (vals (tn s)) k = (16 * hz (Bl.nth (tn s) (2 * k)) + hz (Bl.nth (tn s) (2 * k + 1))).toNat := vals_nth _ hlt
        have za := hz_lt (Bl.nth (tn s) (2 * k))
        have zb := hz_lt (Bl.nth (tn s) (2 * k + 1))
        have ca := fun w => half_any _ ha w
        have cb := fun w => half_any _ hb2 w
        have ZX : ∃ x y : Int, x = hz (Bl.nth (tn s) (2 * k)) ∧ y = hz (Bl.nth (tn s) (2 * k + 1)) := ⟨_, _, rfl, rfl⟩
        obtain ⟨x, y, hx, hy⟩ := ZX
        rw [← hx] at hF hV za ca
        rw [← hy] at hF hV zb cb
        obtain ⟨u, hu⟩ : ∃ u, u = Bl.nth (tn s) (2 * k) := ⟨_, rfl⟩
        obtain ⟨v, hv⟩ : ∃ v, v = Bl.nth (tn s) (2 * k + 1) := ⟨_, rfl⟩
        rw [← hu] at ca n0
        rw [← hv] at cb n1
        go_wp2_with fail
        have hu2 : u < 256 := by rw [hu]; exact ha
        have hv2 : v < 256 := by rw [hv]; exact hb2
        clear ca cb
        go_quiet ((go_at_call 30; exact quietA (half_any _ (by assumption) _)))
        rw [← hx, ← hy]
        replace oD : Own (wo.drewN nq) _ _ _ := oD
        replace ho : Only (B + 1) W0 (wo.drewN nq) := ⟨ho.os, ho.tape, ho.output, ho.size, ho.block⟩
        generalize wo.drewN nq = wp at *
        clear n0 n1 e0 e1 j0 j1 m0 m1 hu2 hv2
        have oR := ho.own o0 (by omega)
        have cd := oD.cell (i := k) (by rw [prn_length lV hk]; exact hlt)
        have zd := oD.frozen k
        obtain ⟨z, hz'⟩ : ∃ z, z = Bl.nth (vals (tn s)) k := ⟨_, rfl⟩
        have s1 := oD.set k z
        have h1 := ho.set k (.int .u8 (z : Nat))
        rw [hz', prn_next lV hlt, ← hz'] at s1
        rw [← hz'] at hV
        have HX := Lib.hid (And.intro hF (And.intro hV (And.intro hx (And.intro hy (And.intro hu hv)))))
        have HFIT := Lib.hid hfit
        clear hF hV hx hy hu hv hz' hfit ha hb2 za zb
        have zx := hz_lt u
        have zy := hz_lt v
        rw [HX.out.2.2.2.2.1] at zx
        rw [HX.out.2.2.2.2.2] at zy
        rw [← HX.out.2.2.1] at zx
        rw [← HX.out.2.2.2.1] at zy
        by_cases hx0 : 0 ≤ x
        · have x0 : decide (x < 0) = false := by simp; omega
          by_cases hy0 : 0 ≤ y
          · have y0 : decide (y < 0) = false := by simp; omega
            have e2 : IntKind.i64.wrap (16 * x) = 16 * x := IntWalk.i64_in _ (by omega)
            have e3 : IntKind.i64.wrap (16 * x + y) = 16 * x + y := IntWalk.i64_in _ (by omega)
            have e4 : IntKind.u8.wrap (16 * x + y) = (z : Int) := by rw [HX.out.2.1, IntWalk.u8_in _ (by omega)]; omega
            have hF : fit (tn s) k = true := by rw [HX.out.1]; simp [hx0, hy0]
            have HG := Lib.hid hF
            clear hF
            go_wp2_with fail
            go_roundw
            case rel => exact ⟨k + 1, by omega, fun i hi => (by by_cases h : i < k; exact HFIT.out i h; obtain rfl : i = k := (by omega); exact HG.out), by go_num, s1, h1⟩
            case measure => simp [intOf]; omega
          · have y0 : y < 0 := by omega
            have hF : fit (tn s) k = false := by rw [HX.out.1]; simp [hy0]
            have eD : isD (tn s) = false := isD_not hlt hF
            have eO : ofD (tn s) = List.replicate 32 0 := by unfold ofD; rw [eD]; rfl
            have HG := Lib.hid (And.intro eD eO)
            clear hF eD eO
            go_wp2_with (refine sto (k := .u8) (l := List.replicate 32 0) t24 rfl rfl rfl rfl oR (by simp) (by simp) ?_)
            refine ret_two (v := .bool false) t24 rfl rfl rfl (oR.row _) (by simp) rfl ⟨by rw [HG.out.1, HG.out.2]; rfl, by (try rw [hBB]); exact below_row (hb.trans (ho.below (by omega))) (by omega) _⟩
        · have x0 : x < 0 := by omega
          have hF : fit (tn s) k = false := by rw [HX.out.1]; simp [hx0]
          have eD : isD (tn s) = false := isD_not hlt hF
          have eO : ofD (tn s) = List.replicate 32 0 := by unfold ofD; rw [eD]; rfl
          have HG := Lib.hid (And.intro eD eO)
          clear hF eD eO
          go_wp2_with (refine sto (k := .u8) (l := List.replicate 32 0) t24 rfl rfl rfl rfl oR (by simp) (by simp) ?_)
          refine ret_two (v := .bool false) t24 rfl rfl rfl (oR.row _) (by simp) rfl ⟨by rw [HG.out.1, HG.out.2]; rfl, by (try rw [hBB]); exact below_row (hb.trans (ho.below (by omega))) (by omega) _⟩
      · obtain rfl : k = 32 := by omega
        simp only [show ((32 : Nat) : Int) = 32 from rfl]
        rw [prn_all lV] at oD
        have oR := ho.own o0 (by omega)
        have eD : isD (tn s) = true := isD_all HT.out.2.2 hfit
        have eO : ofD (tn s) = vals (tn s) := by unfold ofD; rw [eD]; rfl
        go_wp2_with (first | (refine ld t24 rfl rfl rfl oD lV ?_) | (refine sto t24 rfl rfl rfl rfl oR (by simp) lV ?_))
        refine ret_two (v := .bool true) t24 rfl rfl rfl (oR.row _) lV rfl ⟨by rw [eD, eO], by rw [hBB]; exact below_row (hb.trans (ho.below (by omega))) (by omega) _⟩
  · have hsI : decide ((s.size : Int) = 64) = false := by simp; omega
    have hnb : (!decide ((s.size : Int) = 64)) = true := by rw [hsI]; rfl
    have eD : isD (tn s) = false := by unfold isD; rw [tn_length]; simp [h64]
    have eO : ofD (tn s) = List.replicate 32 0 := by unfold ofD; rw [eD]; rfl
    rw [prn_zero, ← HW0.out.symm] at o1
    rw [← HW0.out.symm] at o0 hb
    have oR := o0.row (vs .u8 (List.replicate 32 0))
    have hR := below_row hb (Nat.le_refl _) (vs .u8 (List.replicate 32 0))
    go_enter Tryd.func18, Tryd.ntmps18
    go_wp2_with (first | (refine ld t24 rfl rfl rfl o1 (by simp) ?_) | (refine sto (k := .u8) (l := List.replicate 32 0) t24 rfl rfl rfl rfl o0 (by simp) (by simp) ?_))
    exact ret_two (v := .bool false) t24 rfl rfl rfl oR (by simp) rfl ⟨by rw [eD, eO], hR⟩
end Go.Proofs.YtaabefafafdndaaDoor
