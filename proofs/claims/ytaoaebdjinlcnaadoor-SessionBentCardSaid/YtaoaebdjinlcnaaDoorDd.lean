/-
  THE WALK of a digest, of the document's answer.
-/
import Derived.Test.YtaoaebdjinlcnaaDoorRk
import Derived.Test.YtaoaebdjinlcnaaDoorDg
set_option linter.unusedVariables false
set_option linter.unusedSimpArgs false
set_option maxRecDepth 100000
namespace Go.Proofs.YtaoaebdjinlcnaaDoor
open Go.RowKit
/-- the blocks of a call of the document's 'digest' -/
structure RgIs (w wr : World) (B : Nat) (H : List Nat) : Prop where
  h : Own wr B 88 (vs .u32 H)
  r : Own wr (B + 1) 64 (vs .u8 (List.replicate 32 0))
  b : Below B w wr
theorem RgIs.below {w wr w1 : World} {B : Nat} {H : List Nat} (o : RgIs w wr B H) (hx : Below wr.heap.size wr w1) : RgIs w w1 B H :=
  have := o.r.lt
  ⟨Below.own hx o.h (by omega), Below.own hx o.r (by omega), o.b.trans (hx.mono (by omega))⟩
theorem RgIs.row {w wr : World} {B : Nat} {H : List Nat} (o : RgIs w wr B H) (H' : List Nat) : RgIs w (wr.setRow B (vs .u32 H')) B H' :=
  ⟨o.h.row _, o.r.rowOther _ _ (by omega), below_row o.b (by omega) _⟩
theorem RgIs.drew {w wr : World} {B : Nat} {H : List Nat} (o : RgIs w wr B H) : RgIs w wr.drew B H := ⟨o.h, o.r, o.b.drew⟩
/-- a text's length, of a value -/
def lenV : Value → Nat
  | .string s => s.size
  | _ => 0
set_option maxRecDepth 100000 in
set_option maxHeartbeats 1000000 in
theorem rdigest_any (H : List Nat) (s : ByteArray) (hH : Bl.Ok 8 H) (hs : s.size ≤ 4611686018427387904) (w : World) :
    Calls Tryd.prog 63 #[.agg (vs .u32 H), .string s] w fun e w' => e = .returned (.agg (vs .u8 (Bl.digest H (tn s)))) ∧ Below w.heap.size w w' := by
  have lD : (Bl.digest H (tn s)).length = 32 := by simp [Bl.digest]
  have hDn : ∀ i, i < 32 → Bl.nth (Bl.digest H (tn s)) i = Bl.nth (Bl.state H (tn s)) (i / 4) / 256 ^ (i % 4) % 256 := fun i hi => by
    rw [Bl.nth_lt (by simp [Bl.digest]; exact hi)]; simp [Bl.digest]
  generalize Bl.digest H (tn s) = D at *
  have HD := Lib.hid hDn
  clear hDn
  obtain ⟨W0, hW0⟩ : ∃ W0, W0 = (w.alloc (Obj.cells (vs .u32 H) 88)).alloc (Obj.cells (vs .u8 (List.replicate 32 0)) 64) := ⟨_, rfl⟩
  have o0 : Own W0 w.heap.size 88 (vs .u32 H) := by rw [hW0]; exact (Own.new' _ _ _ rfl).alloc _
  have o1 : Own W0 (w.heap.size + 1) 64 (vs .u8 (List.replicate 32 0)) := by rw [hW0]; exact Own.new' _ _ _ (by simp)
  have hb0 : Below w.heap.size w W0 := by rw [hW0]; exact ((Below.refl _ w).alloc (by simp) _).alloc (by simp) _
  have st : RgIs w W0 w.heap.size (Bl.blocks H (tn s) 0) := ⟨o0, o1, hb0⟩
  clear o0 o1 hb0
  have HW0 := Lib.hid hW0
  clear hW0
  go_enter Tryd.func63, Tryd.ntmps63
  go_wp2_with fail
  change Code.wp _ _ _ _ ((w.alloc (Obj.cells (vs .u32 H) 88)).alloc (Obj.cells (vs .u8 (List.replicate 32 0)) 64))
  rw [← HW0.out]
  clear HW0
  generalize W0 = wx at *
  generalize hBB : w.heap.size = B at *
  go_loopw [5] (fun i' wr => ∃ k q : Nat, q = 64 * k ∧ q ≤ s.size ∧ k ≤ Bl.ahead s.size ∧ i' = .int .i64 q ∧ RgIs w wr B (Bl.blocks H (tn s) k)) (fun i _ => s.size - (intOf i).toNat)
  case atStart => exact ⟨0, 0, rfl, by omega, by omega, rfl, st⟩
  case round =>
    clear st
    obtain ⟨k, q, hq, hqs, hka, rfl, st⟩ := hrel
    generalize wr = wo at *
    have hHk := blocks_ok (t := tn s) hH k
    obtain ⟨p, hp⟩ : ∃ p, p = q + 64 := ⟨_, rfl⟩
    have e1 : IntKind.i64.wrap ((q : Int) + 64) = (p : Int) := by rw [IntWalk.i64_in _ (by omega)]; omega
    have g0 : (0 : Int) ≤ (q : Int) := by omega
    by_cases hlt : p < s.size
    · have d0 : decide ((s.size : Int) ≤ (p : Int)) = false := by simp; omega
      have e2 : IntKind.u64.wrap (p : Int) = (p : Int) := IntWalk.u64_in _ (by omega)
      have g1 : (q : Int) ≤ (p : Int) := by omega
      have g2 : (p : Int) ≤ (s.size : Int) := by omega
      have eN := blocks_next H s k q p hq hp
      have eZ : (s.extract q p).size = 64 := by rw [ByteArray.size_extract]; omega
      have hN := take_ok (M := Bl.words (tn (s.extract q p))) hHk p false
      have ka : k + 1 ≤ Bl.ahead s.size := by unfold Bl.ahead; omega
      have HQ := Lib.hid (And.intro hq hp)
      have hpb : p < 18446744073709551616 := by omega
      have hd : decide (s.size ≤ p) = false := by simp; omega
      clear hq hp
      go_wp2_with (first | (refine ld t42 rfl rfl rfl st.h hHk.1 ?_) | (go_at_call 74; refine (rtake_any _ (s.extract q p) p false hHk eZ hpb _).mono ?_; rintro e w5 ⟨rfl, hx⟩; replace st := st.below hx; clear hx) | (refine sto t42 rfl rfl rfl rfl st.h hHk.1 hN.1 ?_; replace st := st.row (Bl.take (Bl.blocks H (tn s) k) (Bl.words (tn (s.extract q p))) p false)))
      go_roundw
      case rel => exact ⟨k + 1, p, by have := HQ.out; omega, by omega, ka, rfl, by rw [eN]; exact st⟩
      case measure => simp [intOf]; have := HQ.out; omega
    · have d0 : (s.size : Int) ≤ (p : Int) := by omega
      have e2 : IntKind.u64.wrap (s.size : Int) = (s.size : Int) := IntWalk.u64_in _ (by omega)
      have g1 : (q : Int) ≤ (s.size : Int) := by omega
      have hk : k = Bl.ahead s.size := by unfold Bl.ahead at hka ⊢; omega
      obtain ⟨T, hT⟩ : ∃ T, T = (tn s).drop q := ⟨_, rfl⟩
      have lT : T.length = s.size - q := by rw [hT, List.length_drop, tn_length]
      have eT : s.extract q s.size = bs T := by
        rw [← bs_tn (s.extract q s.size), tn_extract, hT, List.take_of_length_le (by rw [tn_length]; omega)]
      have bT : Bl.By T := by rw [hT]; exact fun x hx => tn_by s x (List.mem_of_mem_drop hx)
      have eS : Bl.state H (tn s) = Bl.take (Bl.blocks H (tn s) k) (Bl.words (T ++ List.replicate (64 - T.length) 0)) s.size true := by
        unfold Bl.state
        rw [tn_length, ← hk, hT, List.length_drop, tn_length, ← hq, show 64 - (s.size - q) = 64 * (k + 1) - s.size from by omega]
      have l64 : T.length ≤ 64 := by omega
      have HQ := Lib.hid (And.intro hq (And.intro hp (And.intro hk (And.intro hT lT))))
      clear hq hp hk hT lT hka
      go_wp2_with fail
      go_loopw [8] (fun i' wr => ∃ (j : Nat) (b : ByteArray), i' = .string b ∧ b = bs (T ++ List.replicate j 0) ∧ b.size = T.length + j ∧ b.size ≤ 64 ∧ wr = wo) (fun i _ => 64 - lenV i)
      case atStart => exact ⟨0, _, rfl, by simp, by rw [bs_size]; rfl, by rw [bs_size]; exact l64, rfl⟩
      case round =>
        obtain ⟨j, b, rfl, hb, hz, hz64, rfl⟩ := hrel
        have hzI : (b.size : Int) ≤ 64 := by omega
        by_cases hlt2 : b.size < 64
        · have d1 : (b.size : Int) < 64 := by omega
          have bd : b.size + 1 ≤ 64 := by omega
          have hb' : b ++ ⟨#[0]⟩ = bs (T ++ List.replicate (j + 1) 0) := by
            rw [hb, show T ++ List.replicate (j + 1) 0 = (T ++ List.replicate j 0) ++ [0] from by rw [List.replicate_succ', List.append_assoc], bs_append _ [0]]; rfl
          have HB := Lib.hid hb'
          clear hb' hb
          go_wp2_with fail
          go_roundw
          case rel => exact ⟨j + 1, _, rfl, HB.out, by rw [ByteArray.size_append, hz]; rfl, by rw [ByteArray.size_append]; exact bd, trivial⟩
          case measure => simp only [lenV, ByteArray.size_append]; change 64 - (b.size + 1) < 64 - b.size; omega
        · obtain rfl : j = 64 - T.length := by omega
          have z64 : b.size = 64 := by omega
          have d1 : decide ((b.size : Int) < 64) = false := by simp; omega
          have tb : tn b = T ++ List.replicate (64 - T.length) 0 := by rw [hb, tn_bs]; intro x hx; rcases List.mem_append.mp hx with h | h; exact bT x h; rw [List.eq_of_mem_replicate h]; decide
          rw [← tb] at eS
          have hN := take_ok (M := Bl.words (tn b)) hHk s.size true
          have hsb : s.size < 18446744073709551616 := by omega
          have HS := Lib.hid eS
          clear hb hz tb eS eT bT
          go_wp2_with (first | (refine ld t42 rfl rfl rfl st.h hHk.1 ?_) | (go_at_call 74; refine (rtake_any _ b s.size true hHk z64 hsb _).mono ?_; rintro e w5 ⟨rfl, hx⟩; replace st := st.below hx; clear hx) | (refine sto t42 rfl rfl rfl rfl st.h hHk.1 hN.1 ?_; replace st := st.row (Bl.take (Bl.blocks H (tn s) k) (Bl.words (tn b)) s.size true); generalize World.setRow _ B (vs .u32 (Bl.take (Bl.blocks H (tn s) k) (Bl.words (tn b)) s.size true)) = W3 at *))
          rw [← HS.out] at st
          have hZ := hN
          rw [← HS.out] at hZ
          clear HS hN
          generalize Bl.state H (tn s) = Z at *
          have HE := Lib.hid HD.out
          obtain ⟨W4, hW4⟩ : ∃ W4, W4 = W3.alloc (Obj.cells (vs .u8 (List.replicate 32 0)) 64) := ⟨_, rfl⟩
          have st2 : RgIs w W4 B Z := by rw [hW4]; exact st.below ((Below.refl _ _).alloc (Nat.le_refl _) _)
          have oD : Own W4 W3.heap.size 64 (vs .u8 (prn 32 D 0)) := by rw [hW4, prn_zero]; exact Own.new _ _ _
          have zD : B + 1 < W3.heap.size := st.r.lt
          have HW4 := Lib.hid hW4
          clear hW4 st
          change Code.wp _ _ _ _ (W3.alloc (Obj.cells (vs .u8 (List.replicate 32 0)) 64))
          rw [← HW4.out]
          clear HW4
          generalize W3.heap.size = gd at *
          go_loopw [10] (fun i' wr => ∃ k : Nat, k ≤ 32 ∧ i' = .int .i64 k ∧ Own wr gd 64 (vs .u8 (prn 32 D k)) ∧ Only gd W4 wr) (fun i _ => 32 - (intOf i).toNat)
          case atStart => exact ⟨0, by omega, rfl, oD, Only.refl _ _⟩
          case round =>
            clear oD
            obtain ⟨i, hi, rfl, oD, ho⟩ := hrel
            generalize wr = wo at *
            by_cases hil : i < 32
            · have hiI : (i : Int) < 32 := by omega
              have oZ := ho.own st2.h (by omega)
              have cz := oZ.cell (i := i / 4) (by rw [hZ.1]; omega)
              have i4 : (i : Int) / 4 < 8 := by omega
              have z4 : Bl.nth Z (i / 4) < 4294967296 := hZ.nth _
              have cd := oD.cell (i := i) (by rw [prn_length lD hi]; exact hil)
              have zd := oD.frozen i
              have s1 := oD.set i (Bl.nth D i)
              have h1 := ho.set i (.int .u8 (Bl.nth D i : Nat))
              rw [prn_next lD hil] at s1
              have hE := HE.out i hil
              have HX := Lib.hid hE
              clear hE oD ho oZ
              obtain ⟨m, hm⟩ : ∃ m, m = i % 4 := ⟨_, rfl⟩
              have hm4 : m < 4 := by omega
              have em : (i : Int) % 4 = (m : Int) := by omega
              have HM := Lib.hid hm
              clear hm
              generalize Bl.nth Z (i / 4) = x0 at *
              go_wp2_with fail
              go_loopw [11, 12] (fun x' j' wr => ∃ j y : Nat, j ≤ m ∧ y = x0 / 256 ^ j ∧ y < 4294967296 ∧ j' = .int .i64 j ∧ x' = .int .u32 y ∧ wr = wo) (fun _ j _ => 4 - (intOf j).toNat)
              case atStart => exact ⟨0, x0, by omega, by simp, z4, rfl, rfl, rfl⟩
              case round =>
                obtain ⟨j, y, hj, hy, hyb, rfl, rfl, rfl⟩ := hrel
                by_cases hjm : j < m
                · have d3 : (j : Int) < (m : Int) := by omega
                  have hY := Lib.hid hy
                  clear hy
                  go_wp2_with fail
                  go_roundw
                  case rel => exact ⟨j + 1, y / 256, by omega, by rw [hY.out, Nat.div_div_eq_div_mul, Nat.pow_succ], by omega, by go_num, by go_num, trivial⟩
                  case measure => simp [intOf]; omega
                · obtain rfl : j = m := by omega
                  have ev : ((y : Nat) : Int) % 256 = ((Bl.nth D i : Nat) : Int) := by
                    rw [HX.out, ← HM.out, ← hy]; rfl
                  have HV := Lib.hid ev
                  clear hy ev
                  go_wp2_with fail
                  rw [HV.out]
                  go_roundw
                  case rel => exact ⟨i + 1, by omega, by go_num, s1, h1⟩
                  case measure => simp [intOf]; omega
            · obtain rfl : i = 32 := by omega
              simp only [show ((32 : Nat) : Int) = 32 from rfl]
              rw [prn_all lD] at oD
              have oR := ho.own st2.r (by omega)
              go_wp2_with (first | (refine ld t24 rfl rfl rfl oD lD ?_) | (refine sto t24 rfl rfl rfl rfl oR rfl lD ?_))
              refine ret_arr t24 rfl rfl (oR.row _) lD rfl ⟨rfl, by rw [hBB]; exact below_row (st2.b.trans (ho.below (by omega))) (by omega) _⟩
end Go.Proofs.YtaoaebdjinlcnaaDoor
