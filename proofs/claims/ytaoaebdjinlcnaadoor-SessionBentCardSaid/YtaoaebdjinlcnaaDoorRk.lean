/-
  THE WALK of a block that is taken in, of the document's answer.
-/
import Derived.Test.YtaoaebdjinlcnaaDoorTk
import Derived.Test.YtaoaebdjinlcnaaDoorEr
import Derived.Test.YtaoaebdjinlcnaaDoorRm
import Derived.RegionTactic
import Derived.BigRegion
set_option linter.unusedVariables false
set_option linter.unusedSimpArgs false
set_option maxRecDepth 100000
namespace Go.Proofs.YtaoaebdjinlcnaaDoor
open Go.RowKit
theorem sg_lt : ∀ r, r < 10 → ∀ i, i < 16 → Bl.sg r i < 16 := by decide +kernel
theorem sign_le {x : Nat} (h : x < 16) : 48 ≤ Bl.sign x ∧ Bl.sign x < 256 := by unfold Bl.sign; split <;> omega
theorem place_sign (x : Nat) (h : x < 16) (w : World) : Calls Tryd.prog 87 #[.int .u8 (Bl.sign x : Nat)] w fun e w' => e = .returned (.int .i64 (x : Int)) ∧ w = w' := by
  refine (place_any (Bl.sign x) w (sign_le h).2 (sign_le h).1).mono ?_
  rintro e w' ⟨rfl, rfl⟩
  refine ⟨?_, rfl⟩
  have : (if 97 ≤ Bl.sign x then Bl.sign x - 87 else Bl.sign x - 48 : Nat) = x := by unfold Bl.sign; split <;> split <;> omega
  rw [this]
theorem Own.belowSet {B g : Nat} {a w : World} (h : Below B a w) (hg : B ≤ g) (i : Nat) (u : Value) : Below B a (w.setCell ⟨g, i, none⟩ u) := h.setCell hg u
/-- the blocks of a call of the document's 'take' -/
structure RkIs (w wr : World) (B g : Nat) (H V M : List Nat) : Prop where
  h : Own wr B 88 (vs .u32 H)
  r : Own wr (B + 1) 88 (vs .u32 (List.replicate 8 0))
  v : Own wr (B + 1 + 1) 110 (vs .u32 V)
  m : Own wr (B + 1 + 1 + 1) 110 (vs .u32 M)
  f : Own wr g 88 (vs .u32 Bl.iv)
  b : Below B w wr
theorem RkIs.setv {w wr : World} {B g : Nat} {H V M : List Nat} (o : RkIs w wr B g H V M) (hg : B + 3 < g) (i x : Nat) : RkIs w (wr.setCell ⟨B + 1 + 1, i, none⟩ (.int .u32 (x : Int))) B g H (V.set i x) M :=
  ⟨o.h.other _ _ (by simp <;> omega), o.r.other _ _ (by simp <;> omega), o.v.set i x, o.m.other _ _ (by simp <;> omega), o.f.other _ _ (by simp <;> omega), o.b.setCell (by simp <;> omega) _⟩
theorem RkIs.setm {w wr : World} {B g : Nat} {H V M : List Nat} (o : RkIs w wr B g H V M) (hg : B + 3 < g) (i x : Nat) : RkIs w (wr.setCell ⟨B + 1 + 1 + 1, i, none⟩ (.int .u32 (x : Int))) B g H V (M.set i x) :=
  ⟨o.h.other _ _ (by simp <;> omega), o.r.other _ _ (by simp <;> omega), o.v.other _ _ (by simp <;> omega), o.m.set i x, o.f.other _ _ (by simp <;> omega), o.b.setCell (by simp <;> omega) _⟩
theorem RkIs.seth {w wr : World} {B g : Nat} {H V M : List Nat} (o : RkIs w wr B g H V M) (hg : B + 3 < g) (i x : Nat) : RkIs w (wr.setCell ⟨B, i, none⟩ (.int .u32 (x : Int))) B g (H.set i x) V M :=
  ⟨o.h.set i x, o.r.other _ _ (by simp <;> omega), o.v.other _ _ (by simp <;> omega), o.m.other _ _ (by simp <;> omega), o.f.other _ _ (by simp <;> omega), o.b.setCell (by simp <;> omega) _⟩
theorem RkIs.drew {w wr : World} {B g : Nat} {H V M : List Nat} (o : RkIs w wr B g H V M) : RkIs w wr.drew B g H V M := ⟨o.h.drew, o.r.drew, o.v.drew, o.m.drew, o.f.drew, o.b.drew⟩
theorem RkIs.lt {w wr : World} {B g : Nat} {H V M : List Nat} (o : RkIs w wr B g H V M) (hg : B + 3 < g) : B + 3 < wr.heap.size := Nat.lt_trans hg o.f.lt
theorem RkIs.below {w wr w1 : World} {B g : Nat} {H V M : List Nat} (o : RkIs w wr B g H V M) (hg : B + 3 < g) (hx : Below wr.heap.size wr w1) : RkIs w w1 B g H V M :=
  have l := o.lt hg
  have := o.f.lt
  ⟨Below.own hx o.h (by omega), Below.own hx o.r (by omega), Below.own hx o.v (by omega), Below.own hx o.m (by omega), Below.own hx o.f (by omega), o.b.trans (hx.mono (by omega))⟩
theorem RkIs.row {w wr : World} {B g : Nat} {H V M : List Nat} (o : RkIs w wr B g H V M) (hg : B + 3 < g) (V' : List Nat) : RkIs w (wr.setRow (B + 1 + 1) (vs .u32 V')) B g H V' M :=
  ⟨o.h.rowOther _ _ (by omega), o.r.rowOther _ _ (by omega), o.v.row _, o.m.rowOther _ _ (by omega), o.f.rowOther _ _ (by omega), below_row o.b (by omega) _⟩
theorem RkIs.drewN {w wr : World} {B g : Nat} {H V M : List Nat} (o : RkIs w wr B g H V M) (n : Nat) : RkIs w (wr.drewN n) B g H V M := ⟨o.h, o.r, o.v, o.m, o.f, o.b.trans ⟨rfl, rfl, rfl, Nat.le_refl _, fun _ _ => rfl⟩⟩
theorem mixes_lo (m : List Nat) (r : Nat) (v : List Nat) {i : Nat} (h : i < 4) : Bl.mixes m r v (i + 1) = Bl.mixL (Bl.mixes m r v i) i (i + 4) (i + 8) (i + 12) (Bl.nth m (Bl.sg r (2 * i))) (Bl.nth m (Bl.sg r (2 * i + 1))) := by
  rw [Bl.mixes, show i % 4 = i from by omega, show Bl.pb i = i + 4 from by unfold Bl.pb; omega, show Bl.pc i = i + 8 from by unfold Bl.pc; omega, show Bl.pd i = i + 12 from by unfold Bl.pd; omega]
theorem mixes_hi (m : List Nat) (r : Nat) (v : List Nat) {i k : Nat} (h : i = k + 4) (hk : k < 4) : Bl.mixes m r v (i + 1) = Bl.mixL (Bl.mixes m r v i) k (4 + (k + 1) % 4) (8 + (k + 2) % 4) (12 + (k + 3) % 4) (Bl.nth m (Bl.sg r (2 * i))) (Bl.nth m (Bl.sg r (2 * i + 1))) := by
  rw [Bl.mixes, show i % 4 = k from by omega, show Bl.pb i = 4 + (k + 1) % 4 from by unfold Bl.pb; omega, show Bl.pc i = 8 + (k + 2) % 4 from by unfold Bl.pc; omega, show Bl.pd i = 12 + (k + 3) % 4 from by unfold Bl.pd; omega]
theorem rmix_int (S : List Nat) (hS : Bl.Ok 16 S) (a b c d x y : Nat) {ia ib ic id : Int} (w : World) (ha : a < 16) (hb : b < 16) (hc : c < 16) (hd : d < 16) (ab : a ≠ b ∧ a ≠ c ∧ a ≠ d ∧ b ≠ c ∧ b ≠ d ∧ c ≠ d) (e : ia = a ∧ ib = b ∧ ic = c ∧ id = d) :
    Calls Tryd.prog 88 #[.agg (vs .u32 S), .int .i64 ia, .int .i64 ib, .int .i64 ic, .int .i64 id, .int .u32 x, .int .u32 y] w fun e w' => e = .returned (.agg (vs .u32 (Bl.mixL S a b c d x y))) ∧ Below w.heap.size w w' := by
  obtain ⟨rfl, rfl, rfl, rfl⟩ := e
  obtain ⟨h1, h2, h3, h4, h5, h6⟩ := ab
  exact rmix_any S hS a b c d x y w ha hb hc hd h1 h2 h3 h4 h5 h6
set_option maxRecDepth 100000 in
set_option maxHeartbeats 4000000 in
theorem rtake_any (H : List Nat) (s : ByteArray) (n : Nat) (last : Bool) (hH : Bl.Ok 8 H) (hs : s.size = 64) (hn : n < 18446744073709551616) (w : World) :
    Calls Tryd.prog 74 #[.agg (vs .u32 H), .string s, .int .u64 n, .bool last] w fun e w' => e = .returned (.agg (vs .u32 (Bl.take H (Bl.words (tn s)) n last))) ∧ Below w.heap.size w w' := by
  have lX := words_length (tn s)
  have hXn := fun i (h : i < 16) => words_nth (tn s) h
  generalize Bl.words (tn s) = X at *
  obtain ⟨R, hR⟩ : ∃ R, R = Bl.take H X n last := ⟨_, rfl⟩
  rw [← hR]
  have HR := Lib.hid hR
  clear hR
  have lH := hH.1
  obtain ⟨A, hA⟩ : ∃ A, A = H ++ Bl.iv := ⟨_, rfl⟩
  have lA : A.length = 16 := by rw [hA, List.length_append, lH]; rfl
  have hAl : ∀ i, i < 8 → Bl.nth A i = Bl.nth H i := fun i hi => by rw [hA, Bl.nth_lt (by rw [List.length_append]; omega), Bl.nth_lt (by omega), List.getElem_append_left]
  have hAr : ∀ i, i < 8 → Bl.nth A (i + 8) = Bl.nth Bl.iv i := fun i hi => by
    rw [hA, Bl.nth_lt (by rw [List.length_append, iv_len]; omega), Bl.nth_lt (by rw [iv_len]; omega), List.getElem_append_right (by omega)]
    simp [lH]
  have HA := Lib.hid (And.intro hA (And.intro hAl hAr))
  clear hA hAl hAr
  obtain ⟨W0, hW0⟩ : ∃ W0, W0 = (((w.alloc (Obj.cells (vs .u32 H) 88)).alloc (Obj.cells (vs .u32 (List.replicate 8 0)) 88)).alloc (Obj.cells (vs .u32 (List.replicate 16 0)) 110)).alloc (Obj.cells (vs .u32 (List.replicate 16 0)) 110) := ⟨_, rfl⟩
  have o0 : Own W0 w.heap.size 88 (vs .u32 H) := by rw [hW0]; exact (((Own.new' _ _ _ rfl).alloc _).alloc _).alloc _
  have o1 : Own W0 (w.heap.size + 1) 88 (vs .u32 (List.replicate 8 0)) := by rw [hW0]; exact ((Own.new' _ _ _ (by simp)).alloc _).alloc _
  have o2 : Own W0 (w.heap.size + 1 + 1) 110 (vs .u32 (prn 16 A 0)) := by rw [hW0, prn_zero]; exact (Own.new' _ _ _ (by simp)).alloc _
  have o3 : Own W0 (w.heap.size + 1 + 1 + 1) 110 (vs .u32 (prn 16 X 0)) := by rw [hW0, prn_zero]; exact Own.new' _ _ _ (by simp)
  have hb0 : Below w.heap.size w W0 := by rw [hW0]; exact ((((Below.refl _ w).alloc (by simp) _).alloc (by simp) _).alloc (by simp; omega) _).alloc (by simp; omega) _
  have hz0 : W0.heap.size = w.heap.size + 4 := by rw [hW0]; simp
  have HW0 := Lib.hid hW0
  clear hW0
  have HX := Lib.hid hXn
  clear hXn
  have HY := Lib.hid (And.intro o0 (And.intro o1 (And.intro o2 (And.intro o3 (And.intro hb0 hz0)))))
  clear o0 o1 o2 o3 hb0 hz0
  go_enter Tryd.func74, Tryd.ntmps74
  go_wp2_with fail
  change Calls _ _ _ ((((w.alloc (Obj.cells (vs .u32 H) 88)).alloc (Obj.cells (vs .u32 (List.replicate 8 0)) 88)).alloc (Obj.cells (vs .u32 (List.replicate 16 0)) 110)).alloc (Obj.cells (vs .u32 (List.replicate 16 0)) 110)) _
  rw [← HW0.out]
  clear HW0
  refine (eight_any _).mono ?_
  rintro e w1 ⟨rfl, hx⟩
  have hz := HY.out.2.2.2.2.2
  rw [hz] at hx
  have hsz := hx.size
  go_wp2_with (refine sto_new (l := Bl.iv) t42 rfl rfl rfl (by simp) rfl rfl rfl ?_)
  generalize hBB : w.heap.size = B at *
  obtain ⟨g, hg⟩ : ∃ g, g = w1.heap.size := ⟨_, rfl⟩
  have hgB : B + 3 < g := by omega
  have st : RkIs w (w1.alloc (Obj.cells (vs .u32 Bl.iv) 88)) B g H (prn 16 A 0) (prn 16 X 0) :=
    ⟨(Below.own hx HY.out.1 (by omega)).alloc _, (Below.own hx HY.out.2.1 (by omega)).alloc _, (Below.own hx HY.out.2.2.1 (by omega)).alloc _, (Below.own hx HY.out.2.2.2.1 (by omega)).alloc _, Own.new' _ _ _ hg, (HY.out.2.2.2.2.1.trans (hx.mono (by omega))).alloc (by omega) _⟩
  rw [← hg]
  clear HY hz hx hsz hg
  generalize w1.alloc (Obj.cells (vs .u32 Bl.iv) 88) = wx at *
  go_loopw [12] (fun i' wr => ∃ k : Nat, k ≤ 16 ∧ i' = .int .i64 k ∧ RkIs w wr B g H (prn 16 A k) (prn 16 X k)) (fun i _ => 16 - (intOf i).toNat)
  case atStart => exact ⟨0, by omega, rfl, st⟩
  case round =>
    clear st
    obtain ⟨k, hk, rfl, st⟩ := hrel
    generalize wr = wo at *
    by_cases hlt : k < 16
    · have hkI : (k : Int) < 16 := by omega
      have hX := HX.out k hlt
      have e0 : IntKind.i64.wrap (4 * (k : Int)) = 4 * (k : Int) := IntWalk.i64_in _ (by omega)
      have e1 : IntKind.i64.wrap (4 * (k : Int) + 1) = 4 * (k : Int) + 1 := IntWalk.i64_in _ (by omega)
      have e2 : IntKind.i64.wrap (4 * (k : Int) + 2) = 4 * (k : Int) + 2 := IntWalk.i64_in _ (by omega)
      have e3 : IntKind.i64.wrap (4 * (k : Int) + 3) = 4 * (k : Int) + 3 := IntWalk.i64_in _ (by omega)
      have g0 : 0 ≤ 4 * (k : Int) := by omega
      have g1 : 0 ≤ 4 * (k : Int) + 1 := by omega
      have g2 : 0 ≤ 4 * (k : Int) + 2 := by omega
      have g3 : 0 ≤ 4 * (k : Int) + 3 := by omega
      have j0 : 4 * (k : Int) < 64 := by omega
      have j1 : 4 * (k : Int) + 1 < 64 := by omega
      have j2 : 4 * (k : Int) + 2 < 64 := by omega
      have j3 : 4 * (k : Int) + 3 < 64 := by omega
      have n0 : (4 * (k : Int)).toNat = 4 * k := by omega
      have n1 : (4 * (k : Int) + 1).toNat = 4 * k + 1 := by omega
      have n2 : (4 * (k : Int) + 2).toNat = 4 * k + 2 := by omega
      have n3 : (4 * (k : Int) + 3).toNat = 4 * k + 3 := by omega
      go_wp2_with fail
      have q0 : s[4 * k].toNat = Bl.nth (tn s) (4 * k + 0) := tn_get s (by omega)
      have q1 : s[4 * k + 1].toNat = Bl.nth (tn s) (4 * k + 1) := tn_get s (by omega)
      have q2 : s[4 * k + 2].toNat = Bl.nth (tn s) (4 * k + 2) := tn_get s (by omega)
      have q3 : s[4 * k + 3].toNat = Bl.nth (tn s) (4 * k + 3) := tn_get s (by omega)
      have b0 : s[4 * k].toNat < 256 := UInt8.toNat_lt _
      have b1 : s[4 * k + 1].toNat < 256 := UInt8.toNat_lt _
      have b2 : s[4 * k + 2].toNat < 256 := UInt8.toNat_lt _
      have b3 : s[4 * k + 3].toNat < 256 := UInt8.toNat_lt _
      obtain ⟨p0, hp0⟩ : ∃ p, p = s[4 * k].toNat := ⟨_, rfl⟩
      obtain ⟨p1, hp1⟩ : ∃ p, p = s[4 * k + 1].toNat := ⟨_, rfl⟩
      obtain ⟨p2, hp2⟩ : ∃ p, p = s[4 * k + 2].toNat := ⟨_, rfl⟩
      obtain ⟨p3, hp3⟩ : ∃ p, p = s[4 * k + 3].toNat := ⟨_, rfl⟩
      have hv : Bl.nth X k = p0 + 256 * p1 + 65536 * p2 + 16777216 * p3 := by
        rw [hX, hp0, hp1, hp2, hp3, q0, q1, q2, q3]; rfl
      clear q0 q1 q2 q3 hX
      rw [← hp0] at b0
      rw [← hp1] at b1
      rw [← hp2] at b2
      rw [← hp3] at b3
      have c0 := hp0.symm
      have c1 := hp1.symm
      have c2 := hp2.symm
      have c3 := hp3.symm
      have w0 : IntKind.u32.wrap (p0 : Int) = p0 := IntWalk.u32_in _ (by omega)
      have w1' : IntKind.u32.wrap (p1 : Int) = p1 := IntWalk.u32_in _ (by omega)
      have w2' : IntKind.u32.wrap (p2 : Int) = p2 := IntWalk.u32_in _ (by omega)
      have w3 : IntKind.u32.wrap (p3 : Int) = p3 := IntWalk.u32_in _ (by omega)
      have m1 : IntKind.u32.wrap ((p1 : Int) * 256) = p1 * 256 := IntWalk.u32_in _ (by omega)
      have m2 : IntKind.u32.wrap ((p2 : Int) * 65536) = p2 * 65536 := IntWalk.u32_in _ (by omega)
      have m3 : IntKind.u32.wrap ((p3 : Int) * 16777216) = p3 * 16777216 := IntWalk.u32_in _ (by omega)
      have a1 : IntKind.u32.wrap ((p0 : Int) + p1 * 256) = p0 + p1 * 256 := IntWalk.u32_in _ (by omega)
      have a2 : IntKind.u32.wrap ((p0 : Int) + p1 * 256 + p2 * 65536) = p0 + p1 * 256 + p2 * 65536 := IntWalk.u32_in _ (by omega)
      have a3 : IntKind.u32.wrap ((p0 : Int) + p1 * 256 + p2 * 65536 + p3 * 16777216) = ((Bl.nth X k : Nat) : Int) := by rw [hv, IntWalk.u32_in _ (by omega)]; omega
      clear hp0 hp1 hp2 hp3 hv
      have st1 := (st.drew.setm hgB k (Bl.nth X k))
      rw [prn_next lX hlt] at st1
      have cs := st.drew.m.cell (i := k) (by rw [prn_length lX (by omega)]; exact hlt)
      have z1 := st.drew.m.frozen k
      refine wp_region_still_tail 31 (by kernel_rfl) (by kernel_rfl) ?_
      simp only [List.take_succ_cons, List.take_zero, List.drop_succ_cons, List.drop_zero]
      change wpStill _ _ wo.drew (fun a' => wpList _ _ _ _ a' wo.drew) _ _
      generalize wo.drew = w2 at *
      repeat still_step
      refine wpStill_nil ?_
      change wpList _ _ _ _ _ w2
      clear e0 e1 e2 e3 g0 g1 g2 g3 j0 j1 j2 j3 n0 n1 n2 n3 c0 c1 c2 c3 w0 w1' w2' w3 m1 m2 m3 a1 a2 a3 b0 b1 b2 b3
      have st2 := st1.setv hgB k (Bl.nth A k)
      rw [prn_next lA hlt] at st2
      have cv := st1.v.cell (i := k) (by rw [prn_length lA (by omega)]; exact hlt)
      have zv := st1.v.frozen k
      by_cases h8 : k < 8
      · have h8I : (k : Int) < 8 := by omega
        have ch := st1.h.cell (i := k) (by omega)
        rw [← HA.out.2.1 k h8] at ch
        clear st st1
        go_wp2
        go_roundw
        case rel => exact ⟨k + 1, by omega, by go_num, st2⟩
        case measure => simp [intOf]; omega
      · obtain ⟨q, hq⟩ : ∃ q, q = k - 8 := ⟨_, rfl⟩
        have h8I : decide ((k : Int) < 8) = false := by simp; omega
        have ch := st1.f.cell (i := k - 8) (by rw [iv_len]; omega)
        rw [← HA.out.2.2 (k - 8) (by omega), show k - 8 + 8 = k from by omega] at ch
        clear st st1 hq
        go_wp2
        go_roundw
        case rel => exact ⟨k + 1, by omega, by go_num, st2⟩
        case measure => simp [intOf]; omega
    · obtain rfl : k = 16 := by omega
      simp only [show ((16 : Nat) : Int) = 16 from rfl]
      rw [prn_all lA, prn_all lX] at st
      clear hlt hk
      have hAo : Bl.Ok 16 A := ⟨lA, by rw [HA.out.1]; intro x hx; rcases List.mem_append.mp hx with h | h; exact hH.2 x h; exact Bl.iv_ok.2 x h⟩
      have hS := start_set lH n
      rw [← HA.out.1] at hS
      have c12 := st.v.cell (i := 12) (by omega)
      have z12 := st.v.frozen 12
      have c13 := st.v.cell (i := 13) (by omega)
      have z13 := st.v.frozen 13
      have c14 := st.v.cell (i := 14) (by omega)
      have z14 := st.v.frozen 14
      have nI : (n : Int) < 18446744073709551616 := by omega
      have x12 : bits BinOp.xor .u32 ((Bl.nth A 12 : Nat) : Int) ((n : Int) % 4294967296) = ((Bl.nth A 12 ^^^ n % 4294967296 : Nat) : Int) := by
        rw [show (n : Int) % 4294967296 = ((n % 4294967296 : Nat) : Int) from by omega]; exact u32_xor_nat _ _ (hAo.nth _) (Nat.mod_lt _ (by decide))
      have x13 : bits BinOp.xor .u32 ((Bl.nth A 13 : Nat) : Int) ((n : Int) / 4294967296) = ((Bl.nth A 13 ^^^ n / 4294967296 : Nat) : Int) := by
        rw [show (n : Int) / 4294967296 = ((n / 4294967296 : Nat) : Int) from by omega]; exact u32_xor_nat _ _ (hAo.nth _) (by omega)
      have sv := (st.setv hgB 12 (Bl.nth A 12 ^^^ n % 4294967296)).setv hgB 13 (Bl.nth (A.set 12 (Bl.nth A 12 ^^^ n % 4294967296)) 13 ^^^ n / 4294967296 % 4294967296)
      rw [hS] at sv
      rw [show Bl.nth (A.set 12 (Bl.nth A 12 ^^^ n % 4294967296)) 13 ^^^ n / 4294967296 % 4294967296 = Bl.nth A 13 ^^^ n / 4294967296 from by rw [Bl.nth_set_ne (by decide), Nat.mod_eq_of_lt (a := n / 4294967296) (by omega)]] at sv
      have hV := Bl.start_ok hH n last
      have hM : Bl.Ok 16 X := ⟨lX, fun x hx => by
        obtain ⟨i, hi, rfl⟩ := List.getElem_of_mem hx
        rw [← Bl.nth_lt hi, HX.out i (by omega)]
        have := fun j => (tn_by s).nth j
        have h0 := this (4 * i); have h1 := this (4 * i + 1); have h2 := this (4 * i + 2); have h3 := this (4 * i + 3)
        unfold Bl.word; omega⟩
      rcases last with _ | _
      case' false =>
        go_wp2_with fail
        generalize (wo.setCell ⟨B + 1 + 1, 12, none⟩ (.int .u32 ((Bl.nth A 12 ^^^ n % 4294967296 : Nat) : Int))).setCell ⟨B + 1 + 1, 13, none⟩ (.int .u32 ((Bl.nth A 13 ^^^ n / 4294967296 : Nat) : Int)) = ws at *
        have su := sv
        clear sv hS c12 z12 c13 z13 c14 z14 x12 x13 hAo st
        have hR : R = Bl.fin H (Bl.rounds X (Bl.start H n false) 10) := HR.out
        generalize Bl.start H n false = V at *
      case' true =>
        have hU := start_tail (start_head hS hn)
        have su := sv.setv hgB 14 (4294967295 - Bl.nth A 14)
        rw [hU] at su
        have x14 : IntKind.u32.wrap (4294967295 - (Bl.nth A 14 : Nat) : Int) = ((4294967295 - Bl.nth A 14 : Nat) : Int) := by
          have := hAo.nth 14
          rw [IntWalk.u32_in _ (by omega)]; omega
        go_wp2_with fail
        generalize ((wo.setCell ⟨B + 1 + 1, 12, none⟩ (.int .u32 ((Bl.nth A 12 ^^^ n % 4294967296 : Nat) : Int))).setCell ⟨B + 1 + 1, 13, none⟩ (.int .u32 ((Bl.nth A 13 ^^^ n / 4294967296 : Nat) : Int))).setCell ⟨B + 1 + 1, 14, none⟩ (.int .u32 ((4294967295 - Bl.nth A 14 : Nat) : Int)) = ws at *
        clear sv hS hU c12 z12 c13 z13 c14 z14 x12 x13 x14 hAo st
        have hR : R = Bl.fin H (Bl.rounds X (Bl.start H n true) 10) := HR.out
        generalize Bl.start H n true = V at *
      all_goals
        clear HR
        have HR := Lib.hid hR
        clear hR
        go_loopw [13] (fun i' wr => ∃ k : Nat, k ≤ 10 ∧ i' = .int .i64 k ∧ RkIs w wr B g H (Bl.rounds X V k) X) (fun i _ => 10 - (intOf i).toNat)
        case atStart => exact ⟨0, by omega, rfl, su⟩
        case round =>
          clear su
          obtain ⟨k, hk, rfl, st⟩ := hrel
          generalize wr = wo at *
          have hVk := Bl.rounds_ok (m := X) hV k
          by_cases hlt : k < 10
          · have hkI : (k : Int) < 10 := by omega
            go_wp2_with fail
            refine (rows_any _).mono ?_
            rintro e w3 ⟨gr, hgr, rfl, hrow, hx⟩
            have st1 := st.below hgB hx
            have cr := hrow k hlt
            have sT := rowT_size k hlt
            have gT := fun i (hi : i < 16) (h : i < (rowT k).size) => rowT_get k i hlt hi h
            clear st hrow hx
            generalize rowT k = T at *
            have HT := Lib.hid gT
            clear gT
            have em : Bl.rounds X V (k + 1) = Bl.mixes X k (Bl.rounds X V k) 8 := rfl
            have EM := Lib.hid em
            clear em
            generalize Bl.rounds X V k = Vk at *
            go_wp2_with fail
            go_loopw [15] (fun i' wr => ∃ i : Nat, i ≤ 8 ∧ i' = .int .i64 i ∧ RkIs w wr B g H (Bl.mixes X k Vk i) X) (fun i _ => 8 - (intOf i).toNat)
            case atStart => exact ⟨0, by omega, rfl, st1⟩
            case round =>
              clear st1 cr
              obtain ⟨i, hi, rfl, st⟩ := hrel
              generalize wr = wo at *
              have hMi := Bl.mixes_ok (m := X) hVk k i
              by_cases hil : i < 8
              · have hiI : (i : Int) < 8 := by omega
                have a0 := sg_lt k hlt (2 * i) (by omega)
                have a1 := sg_lt k hlt (2 * i + 1) (by omega)
                have e0 : IntKind.i64.wrap (2 * (i : Int)) = 2 * (i : Int) := IntWalk.i64_in _ (by omega)
                have e1 : IntKind.i64.wrap (2 * (i : Int) + 1) = 2 * (i : Int) + 1 := IntWalk.i64_in _ (by omega)
                have g0 : 0 ≤ 2 * (i : Int) := by omega
                have g1 : 0 ≤ 2 * (i : Int) + 1 := by omega
                have j0 : 2 * (i : Int) < 16 := by omega
                have j1 : 2 * (i : Int) + 1 < 16 := by omega
                have n0 : (2 * (i : Int)).toNat = 2 * i := by omega
                have n1 : (2 * (i : Int) + 1).toNat = 2 * i + 1 := by omega
                have t0 : T[2 * i].toNat = Bl.sign (Bl.sg k (2 * i)) := HT.out (2 * i) (by omega) (by omega)
                have t1 : T[2 * i + 1].toNat = Bl.sign (Bl.sg k (2 * i + 1)) := HT.out (2 * i + 1) (by omega) (by omega)
                have el := fun h4 => mixes_lo X k Vk (i := i) h4
                have eh := fun q (h : i = q + 4) h4 => mixes_hi X k Vk (i := i) (k := q) h h4
                generalize Bl.sg k (2 * i) = x0 at *
                generalize Bl.sg k (2 * i + 1) = x1 at *
                have c0 := fun nn : Nat => (st.drewN nn).m.cell (i := x0) (by omega)
                have c1 := fun nn : Nat => (st.drewN nn).m.cell (i := x1) (by omega)
                have k0 : (x0 : Int) < 16 := by omega
                have k1 : (x1 : Int) < 16 := by omega
                have EE := Lib.hid (And.intro el eh)
                clear el eh
                go_wp2_with fail
                go_quiet ((go_at_call 87; exact quietA (place_sign _ (by assumption) _)))
                have st1 := st.drewN nq
                clear st c0 c1 t0 t1 n0 n1 j0 j1 g0 g1 e0 e1 k0 k1 a0 a1
                generalize wo.drewN nq = wp at *
                by_cases h4 : i < 4
                · have h4I : (i : Int) < 4 := by omega
                  go_wp2_with (refine ld t63 rfl rfl rfl st1.v hMi.1 ?_)
                  refine (rmix_int _ hMi i (i + 4) (i + 8) (i + 12) _ _ _ (by omega) (by omega) (by omega) (by omega) (by omega) (by omega)).mono ?_
                  rintro e w4 ⟨rfl, hx⟩
                  have st2 := st1.below hgB hx
                  have hM2 := Bl.mixes_ok (m := X) hVk k (i + 1)
                  rw [← EE.out.1 h4]
                  have st3 := st2.row hgB (Bl.mixes X k Vk (i + 1))
                  clear st1 hx
                  go_wp2_with (refine sto2 t63 rfl rfl rfl rfl rfl st2.v hMi.1 hM2.1 ?_)
                  go_roundw
                  case rel => exact ⟨i + 1, by omega, by go_num, st3⟩
                  case measure => simp [intOf]; omega
                · obtain ⟨q, hq⟩ : ∃ q, i = q + 4 := ⟨i - 4, by omega⟩
                  have h4I : decide ((i : Int) < 4) = false := by simp; omega
                  have hqI : (i : Int) = q + 4 := by omega
                  have HQ := Lib.hid hq
                  have HI := Lib.hid hqI
                  have q0 : (q : Int) < 4 := by omega
                  have ei : (i : Int) - 4 = q := by omega
                  clear hq hqI
                  go_wp2_with (refine ld t63 rfl rfl rfl st1.v hMi.1 ?_)
                  have hq := HQ.out
                  refine (rmix_int _ hMi q (4 + (q + 1) % 4) (8 + (q + 2) % 4) (12 + (q + 3) % 4) _ _ _ (by omega) (by omega) (by omega) (by omega) (by omega) (by omega)).mono ?_
                  rintro e w4 ⟨rfl, hx⟩
                  have st2 := st1.below hgB hx
                  have hM2 := Bl.mixes_ok (m := X) hVk k (i + 1)
                  rw [← EE.out.2 q hq (by omega)]
                  have st3 := st2.row hgB (Bl.mixes X k Vk (i + 1))
                  clear st1 hx hq
                  go_wp2_with (refine sto2 t63 rfl rfl rfl rfl rfl st2.v hMi.1 hM2.1 ?_)
                  go_roundw
                  case rel => exact ⟨i + 1, by omega, by go_num, st3⟩
                  case measure => simp [intOf]; omega
              · obtain rfl : i = 8 := by omega
                simp only [show ((8 : Nat) : Int) = 8 from rfl]
                rw [← EM.out] at st
                go_wp2_with fail
                go_roundw
                case rel => exact ⟨k + 1, by omega, by go_num, st⟩
                case measure => simp [intOf]; omega
          · obtain rfl : k = 10 := by omega
            simp only [show ((10 : Nat) : Int) = 10 from rfl]
            generalize Bl.rounds X V 10 = Z at *
            clear hV
            have lZ := hVk.1
            have hF := Bl.fin_ok hH hVk
            have lF := hF.1
            have fN := fun i (h : i < 8) => fin_nth H Z h
            generalize Bl.fin H Z = F at *
            have HF := Lib.hid fN
            clear fN
            have st0 : RkIs w wo B g (mid F H 0) Z X := by rw [mid_zero]; exact st
            clear st
            go_wp2_with fail
            go_loopw [19] (fun i' wr => ∃ k : Nat, k ≤ 8 ∧ i' = .int .i64 k ∧ RkIs w wr B g (mid F H k) Z X) (fun i _ => 8 - (intOf i).toNat)
            case atStart => exact ⟨0, by omega, rfl, st0⟩
            case round =>
              clear st0
              obtain ⟨k, hk, rfl, st⟩ := hrel
              generalize wr = wp at *
              by_cases hlt : k < 8
              · have hkI : (k : Int) < 8 := by omega
                have ll := mid_length lF lH hk
                obtain ⟨q, hq⟩ : ∃ q, q = k + 8 := ⟨_, rfl⟩
                have e8 : IntKind.i64.wrap ((k : Int) + 8) = (q : Int) := by rw [IntWalk.i64_in _ (by omega)]; omega
                have cH := st.drew.h.cell (i := k) (by omega)
                rw [mid_at lF hlt] at cH
                have cV := st.drew.v.cell (i := k) (by omega)
                have cW := st.drew.v.cell (i := q) (by omega)
                have zH := st.drew.h.frozen k
                have i1 : (k : Int) < 16 := by omega
                have i2 : (q : Int) < 16 := by omega
                have x1 := u32_xor_nat (Bl.nth H k) (Bl.nth Z k) (hH.nth _) (hVk.nth _)
                have x2 := u32_xor_nat (Bl.nth H k ^^^ Bl.nth Z k) (Bl.nth Z q) (Bl.xor_lt (hH.nth _) (hVk.nth _)) (hVk.nth _)
                have f1 := HF.out k hlt
                rw [← hq, ← Nat.xor_assoc] at f1
                rw [← f1] at x2
                have st1 := st.drew.seth hgB k (Bl.nth F k)
                rw [mid_next lF lH hlt] at st1
                clear f1 hq st
                go_wp2_with fail
                refine wp_region_still_tail 14 (by kernel_rfl) (by kernel_rfl) ?_
                simp only [List.take_succ_cons, List.take_zero, List.drop_succ_cons, List.drop_zero]
                change wpStill _ _ wp.drew (fun a' => wpList _ _ _ _ a' wp.drew) _ _
                generalize wp.drew = w2 at *
                repeat still_step
                refine wpStill_nil ?_
                change wpList _ _ _ _ _ w2
                go_wp2_with fail
                go_roundw
                case rel => exact ⟨k + 1, by omega, by go_num, st1⟩
                case measure => simp [intOf]; omega
              · obtain rfl : k = 8 := by omega
                simp only [show ((8 : Nat) : Int) = 8 from rfl]
                rw [mid_all lF lH] at st
                go_wp2_with (first | (refine ld t42 rfl rfl rfl st.h lF ?_) | (refine sto t42 rfl rfl rfl rfl st.r rfl lF ?_))
                refine ret_arr t42 rfl rfl (st.r.row _) lF rfl ⟨by rw [HR.out], by rw [hBB]; exact below_row st.b (by omega) _⟩
end Go.Proofs.YtaoaebdjinlcnaaDoor
