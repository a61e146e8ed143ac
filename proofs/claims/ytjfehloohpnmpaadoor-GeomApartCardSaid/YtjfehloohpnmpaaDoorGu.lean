/-
  THE WALK of the law that each block is taken once.
-/
import Derived.Test.YtjfehloohpnmpaaDoorRi
namespace Go.Proofs.YtjfehloohpnmpaaDoor
set_option linter.unusedVariables false
set_option maxRecDepth 100000
set_option linter.unusedSimpArgs false
open Go.RowKit
namespace Dw
open _root_.Go.Proofs.YtjfehloohpnmpaaDoor.Nm
def lenOf : Value → Nat
  | .slice _ n _ => n
  | _ => 0
/-- what is known of the numbers taken so far -/
structure Got (l : List ByteArray) (x y : Nat) (G : List Int) (R : Nat) : Prop where
  v : Vol l x y
  r : freeN (toL (nth l 2)) x + G.length = R
  g : ∀ m, m < G.length → ∃ j : Nat, G.getD m 0 = (j : Int) ∧ Gm.dat y ≤ j ∧ j < x ∧ ∀ i, Gm.dat y ≤ i → i ≤ j → Gm.bit (toL (nth l 2)) i = true
  d : ∀ m q, m < q → q < G.length → G.getD m 0 < G.getD q 0
theorem Got.lt {l : List ByteArray} {x y R : Nat} {G : List Int} (h : Got l x y G R) : R ≤ x + G.length ∧ G.length ≤ R := by
  have := freeN_le (toL (nth l 2)) x
  have := h.r
  omega
theorem getD_snoc_lt {G : List Int} {i : Int} {m : Nat} (h : m < G.length) : (G ++ [i]).getD m 0 = G.getD m 0 := by
  rw [List.getD_eq_getElem?_getD, List.getD_eq_getElem?_getD, List.getElem?_append_left h]
theorem getD_snoc_last {G : List Int} {i : Int} : (G ++ [i]).getD G.length 0 = i := by
  rw [List.getD_eq_getElem?_getD, List.getElem?_append_right (Nat.le_refl _), Nat.sub_self]; rfl
theorem Got.above {l : List ByteArray} {x y R i : Nat} {G : List Int} (h : Got l x y G R) (hx : Nxt (toL (nth l 2)) (Gm.dat y) x i) {m : Nat} (hm : m < G.length) : G.getD m 0 < (i : Int) := by
  obtain ⟨j, e, h1, h2, h3⟩ := h.g m hm
  rw [e]
  by_cases hij : i ≤ j
  · have := h3 i hx.1 hij
    rw [hx.2.2.1] at this
    exact nomatch this
  · omega
theorem Got.next {l : List ByteArray} {x y R i : Nat} {G : List Int} (h : Got l x y G R) (hx : Nxt (toL (nth l 2)) (Gm.dat y) x i) : Got (takeL l i) x y (G ++ [(i : Int)]) R := by
  have hb := turn_bit h.v hx.2.1
  have hn := take_nth h.v hx.1
  have hfr := freeN_take hb hx.2.2.1 x
  refine ⟨take_vol h.v hx.1 hx.2.1, ?_, fun m hm => ?_, fun m q hmq hq => ?_⟩
  · rw [hn]
    have := h.r
    rw [if_pos hx.2.1] at hfr
    simp
    omega
  · by_cases hl : m < G.length
    · obtain ⟨j, e, h1, h2, h3⟩ := h.g m hl
      refine ⟨j, by rw [getD_snoc_lt hl, e], h1, h2, fun t h4 h5 => ?_⟩
      rw [hn, hb]
      have := h.above hx hl
      rw [e] at this
      rw [decide_eq_false (by omega), h3 t h4 h5]; rfl
    · obtain rfl : m = G.length := by simp at hm; omega
      refine ⟨i, getD_snoc_last, hx.1, hx.2.1, fun t h4 h5 => ?_⟩
      rw [hn, hb]
      by_cases e : t = i
      · rw [e, hx.2.2.1]; simp
      · rw [decide_eq_false e, hx.2.2.2 t h4 (by omega)]; rfl
  · by_cases hl : q < G.length
    · rw [getD_snoc_lt hl, getD_snoc_lt (by omega)]
      exact h.d m q hmq hl
    · obtain rfl : q = G.length := by simp at hq; omega
      rw [getD_snoc_last, getD_snoc_lt hmq]
      exact h.above hx hmq
theorem Got.full {l : List ByteArray} {x y R : Nat} {G : List Int} (h : Got l x y G R) (hf : Ful (toL (nth l 2)) (Gm.dat y) x) : freeN (toL (nth l 2)) x = 0 := by
  have hlt := h.v.lt
  refine freeN_full x fun j hj => ?_
  by_cases hd : j < Gm.dat y
  · exact (h.v.map j (by omega)).1 hd
  · exact hf j (by omega) hj
/-- what is known when so many are given back -/
structure Bak (l : List ByteArray) (x y : Nat) (G : List Int) (k : Nat) : Prop where
  v : Vol l x y
  r : freeN (toL (nth l 2)) x = k
  g : ∀ m, k ≤ m → m < G.length → ∃ j : Nat, G.getD m 0 = (j : Int) ∧ Gm.dat y ≤ j ∧ j < x ∧ Gm.bit (toL (nth l 2)) j = true
  d : ∀ m q, m < q → q < G.length → G.getD m 0 < G.getD q 0
theorem Got.bak {l : List ByteArray} {x y R : Nat} {G : List Int} (h : Got l x y G R) (hf : Ful (toL (nth l 2)) (Gm.dat y) x) : Bak l x y G 0 :=
  ⟨h.v, h.full hf, fun m _ hm => by
    obtain ⟨j, e, h1, h2, h3⟩ := h.g m hm
    exact ⟨j, e, h1, h2, h3 j h1 (Nat.le_refl _)⟩, h.d⟩
theorem Bak.next {l : List ByteArray} {x y k j : Nat} {G : List Int} (h : Bak l x y G k) (hk : k < G.length) (e : G.getD k 0 = (j : Int)) (h1 : Gm.dat y ≤ j) (h2 : j < x) (h3 : Gm.bit (toL (nth l 2)) j = true) : Bak (l.set 2 (turnT (nth l 2) j)) x y G (k + 1) := by
  have hb := turn_bit h.v h2
  have hn := turn_nth (k := j) h.v
  have hfr := freeN_give hb h3 x
  refine ⟨turn_vol h.v h1 h2, ?_, fun m hm hm' => ?_, h.d⟩
  · rw [hn, hfr, if_pos h2, h.r]
  · obtain ⟨i, e', g1, g2, g3⟩ := h.g m (by omega) hm'
    refine ⟨i, e', g1, g2, ?_⟩
    have := h.d k m (by omega) hm'
    rw [e, e'] at this
    rw [hn, hb, decide_eq_false (by omega), g3]; rfl
theorem room_vol {A : Option Addr} {c : Nat} {l : List ByteArray} {x y : Nat} {w : World} (hl : Tz w A x c l) (hv : Vol l x y) : Calls Tryd.prog 14 #[.slice A x c] w fun e w' => e = .returned (.int .i64 (freeN (toL (nth l 2)) x : Nat)) ∧ Below w.heap.size w w' := by
  refine (room_any A x c l w hl hv.blk.lit).mono ?_
  rintro e w' ⟨h, hb⟩
  refine ⟨?_, hb⟩
  rcases h with ⟨b, n, hv', rfl⟩ | ⟨hn, _⟩
  · obtain ⟨rfl, rfl⟩ := hv.uniq hv'
    rfl
  · exact absurd hv (hn _ _)
theorem used_vol {A : Option Addr} {c : Nat} {l : List ByteArray} {x y i : Nat} {w : World} (hl : Tz w A x c l) (hv : Vol l x y) (hi : i < x) : Calls Tryd.prog 17 #[.slice A x c, .int .i64 (i : Int)] w fun e w' => e = .returned (.bool (Gm.bit (toL (nth l 2)) i)) ∧ Below w.heap.size w w' := by
  refine (used_any A x c l i w hl hv.blk.lit).mono ?_
  rintro e w' ⟨⟨r, rfl, hr⟩, hb⟩
  refine ⟨?_, hb⟩
  have : r = Gm.bit (toL (nth l 2)) i := by
    cases hbt : Gm.bit (toL (nth l 2)) i
    · cases r
      · rfl
      · obtain ⟨_, _, _, _, _, hk⟩ := hr.1 rfl
        rw [Int.toNat_natCast, hbt] at hk
        exact nomatch hk
    · exact hr.2 ⟨x, y, hv, by omega, by omega, by rw [Int.toNat_natCast]; exact hbt⟩
  rw [this]
theorem b2_one (a b : Nat) : (b2 a b).all (·.oneCell') = true := by
  rw [Array.all_eq_true_iff_forall_mem]
  intro v hv
  simp [b2] at hv
  rcases hv with rfl | rfl <;> rfl
theorem info39 : (Tryd.prog.info? 39).map (·.size) = some 2 := by kernel_rfl
theorem ld39 {ops : Array Oper} {rest : List Oper} {o : Oper} {a : Act} {w : World} {Q : Exit → Act → World → Prop} {x : Operand} {g p q : Nat}
    (hgd : o.guard = none) (ho : o.op = .load 39 x) (hx : a.eval x = .pointer (some ⟨g, 0, none⟩)) (hg : Nm.Own w g 39 (b2 p q))
    (h : wpList Tryd.prog ops Q rest (a.put o.dst (.agg (b2 p q))) w) : wpList Tryd.prog ops Q (o :: rest) a w :=
  wpList_load_row hgd 39 x ho g hx 39 _ (0, 0) _ hg Tryd.underlying39 rfl info39 h
set_option maxHeartbeats 4000000 in
theorem takes_any (a b : Nat) (A : Option Addr) (n c : Nat) (K : List Int) (w : World) (ha : a < 256) (hb' : b < 256) (hk : Hz w A n K) :
    Calls Tryd.prog 5 #[.agg (b2 a b), .slice A n c] w fun e w' => e = .returned (.bool true) ∧ Below w.heap.size w w' := by
  have hg := grow w (Obj.cells (b2 a b) 39)
  have o := Nm.Own.new w 39 (b2 a b)
  have hkm := hk.m
  go_enter Tryd.func5, Tryd.ntmps5
  go_wp2_with fail
  refine (alive_any _).mono ?_
  rintro e w1 ⟨rfl, hx1⟩
  have o1 := o.below hx1
  have hb1 := hg.trans (hx1.mono hg.size)
  clear o hg hx1
  by_cases h60 : 60 < n
  · have n60 : (60 : Int) < (n : Int) := by omega
    go_wp2_with fail
    go_ret
    exact ⟨rfl, hb1⟩
  have n60 : ¬ (60 : Int) < (n : Int) := by omega
  go_wp2_with (refine ld39 rfl rfl rfl o1 ?_)
  refine (volume_any a b A n c K _ ha hb' (hk.below hb1)).mono ?_
  rintro e w2 ⟨⟨A1, c1, l0, x, y, rfl, hv, hr⟩, hx2⟩
  have hb2 := hb1.trans (hx2.mono hb1.size)
  have hr := hr.mono hb1.size
  have hlt := hv.lt
  clear o1 hb1 hx2
  have x0 : ¬ (x : Int) = 0 := by omega
  go_wp2_with fail
  refine (room_vol (Tz.of hr (by omega)) hv).mono ?_
  rintro e w3 ⟨rfl, hx3⟩
  have hb3 := hb2.trans (hx3.mono hb2.size)
  have hr3 := hr.below hx3
  have hfl := freeN_le (toL (nth l0 2)) x
  have hg0 : Got l0 x y [] (freeN (toL (nth l0 2)) x) := ⟨hv, rfl, fun m hm => absurd hm (Nat.not_lt_zero _), fun m q _ hq => absurd hq (Nat.not_lt_zero _)⟩
  generalize freeN (toL (nth l0 2)) x = R at *
  clear hb2 hr hx3 hv
  go_wp2_with fail
  go_loopw [7, 8] (fun s v wr => ∃ (Ag : Option Addr) (ng cg : Nat) (G : List Int) (A' : Option Addr) (c' : Nat) (l : List ByteArray), s = .slice Ag ng cg ∧ v = .slice A' x c' ∧ RI wr w.heap.size Ag ng cg G ∧ RS wr w.heap.size A' x c' l ∧ Got l x y G R ∧ Below w.heap.size w wr) (fun s _ _ => 300 - lenOf s)
  case atStart => exact ⟨none, 0, 0, [], A1, c1, l0, rfl, rfl, RI.nil _ _, hr3, hg0, hb3⟩
  case round =>
    clear hr3 hb3 hg0
    obtain ⟨Ag, ng, cg, G, A', c', l, rfl, rfl, hi, hr, hG, hb⟩ := hrel
    have hng : G.length = ng := hi.1
    have hGl := hG.lt
    have hz := Tz.of hr (by omega)
    have htk := take_any A' x c' l wr hz hG.v.blk.lit
    go_wp2_with fail
    refine htk.mono ?_
    rintro e w4 ⟨ht, hx4⟩
    have hb4 := hb.trans (hx4.mono hb.size)
    have hi4 := hi.below hx4
    have hr4 := hr.below hx4
    rcases ht with ⟨hn, _⟩ | ⟨b', m', hv', hful, rfl⟩ | ⟨b', m', i, A2, c2, hv', hnx, rfl, hr2⟩
    · exact absurd hG.v (hn _ _)
    · obtain ⟨rfl, rfl⟩ := hG.v.uniq hv'
      have hB := hG.bak hful
      have hR : ng = R := by have := hG.r; rw [hG.full hful] at this; omega
      have hB0 := Lib.hid hB
      have hbx := hb4
      clear hG htk hz hi hr hb hB hx4 hv' hful
      go_wp2_with fail
      go_loopw [8, 89] (fun v i wr => ∃ (k : Nat) (A' : Option Addr) (c' : Nat) (l : List ByteArray), k ≤ ng ∧ i = .int .i64 k ∧ v = .slice A' x c' ∧ RI wr w.heap.size Ag ng cg G ∧ RS wr w.heap.size A' x c' l ∧ Bak l x y G k ∧ Below w.heap.size w wr) (fun _ i _ => ng - (intOf i).toNat)
      case atStart => exact ⟨0, A', c', l, Nat.zero_le _, rfl, rfl, hi4, hr4, hB0.out, hb4⟩
      case round =>
        clear hi4 hr4 hb4 hbx hB0
        obtain ⟨k, A3, c3, l3, hkn, rfl, rfl, hi, hr, hB, hb⟩ := hrel
        by_cases hlt' : k < ng
        · have k0 : (k : Int) < (ng : Int) := by omega
          obtain ⟨gb, rfl⟩ : ∃ g, Ag = some ⟨g, 0, none⟩ := by
            rcases hi.form with ⟨_, h0, _⟩ | ⟨g, e, _⟩
            · omega
            · exact ⟨g, e⟩
          have cc := hi.cell hlt'
          obtain ⟨j, e, h1, h2, h3⟩ := hB.g k (Nat.le_refl _) (by omega)
          rw [e] at cc
          have HB := Lib.hid (hB.next (by omega) e h1 h2 h3)
          have hgv := fun wr hl => give_any A3 x c3 l3 (j : Int) wr hl hB.v.blk.lit
          have hz := Tz.of hr (by omega)
          have hv3 := hB.v
          clear hB
          go_wp2_with fail
          refine (hgv _ hz).mono ?_
          rintro e' w5 ⟨hgi, hx5⟩
          have hb5 := hb.trans (hx5.mono hb.size)
          have hi5 := hi.below hx5
          rcases hgi with ⟨hn, _⟩ | ⟨b', m', hv5, hor, _⟩ | ⟨b', m', k', hv5, hj, _, _, hf, _⟩ | ⟨b', m', k', A5, c5, hv5, hj, _, _, _, rfl, hr5⟩
          · exact absurd hv3 (hn _ _)
          · obtain ⟨rfl, rfl⟩ := hv3.uniq hv5
            omega
          · obtain rfl : j = k' := by omega
            rw [h3] at hf
            exact nomatch hf
          · obtain ⟨rfl, rfl⟩ := hv3.uniq hv5
            obtain rfl : j = k' := by omega
            have hr5 := hr5.mono hb.size
            clear hi hr hb hgv hz cc hx5
            go_wp2_with fail
            go_roundw
            case rel => exact ⟨k + 1, A5, c5, _, by omega, by go_num, rfl, hi5, hr5, HB.out, hb5⟩
            case measure => simp [intOf]; omega
        · obtain rfl : k = ng := by omega
          have hz := Tz.of hr (by omega)
          have hrm := room_vol hz hB.v
          rw [hB.r] at hrm
          subst hR
          have t1 : ((k : Int) == (k : Int)) = true := by simp
          go_wp2_with fail
          refine hrm.mono ?_
          rintro e w6 ⟨rfl, hx6⟩
          have hb6 := hb.trans (hx6.mono hb.size)
          go_wp2_with fail
          go_ret
          exact ⟨rfl, hb6⟩
    · obtain ⟨rfl, rfl⟩ := hG.v.uniq hv'
      have HN := Lib.hid (hG.next hnx)
      have hNv := HN.out.v
      have hbit := turn_bit hG.v hnx.2.1
      have hnn := take_nth hG.v hnx.1
      have hix := hnx.2.1
      have hu1 : ∀ wr, Tz wr A' x c' l → Calls Tryd.prog 17 #[.slice A' x c', .int .i64 (i : Int)] wr fun e w' => e = .returned (.bool false) ∧ Below wr.heap.size wr w' := fun wr hl => by
        have := used_vol hl hG.v hix
        rw [hnx.2.2.1] at this
        exact this
      have hu2 : ∀ wr, Tz wr A2 x c2 (takeL l i) → Calls Tryd.prog 17 #[.slice A2 x c2, .int .i64 (i : Int)] wr fun e w' => e = .returned (.bool true) ∧ Below wr.heap.size wr w' := fun wr hl => by
        have := used_vol hl hNv hix
        rw [hnn, hbit, hnx.2.2.1, decide_eq_true rfl] at this
        exact this
      have hfr := freeN_take hbit hnx.2.2.1 x
      rw [if_pos hix, ← hnn] at hfr
      have hr1 := fun wr hl => room_vol (A := A2) (c := c2) (w := wr) hl hNv
      have hr2' := fun wr hl => room_vol (A := A') (c := c') (w := wr) hl hG.v
      rw [hfr] at hr2'
      have hpl := freeN_le (toL (nth (takeL l i) 2)) x
      generalize freeN (toL (nth (takeL l i) 2)) x = p at *
      have ep : IntKind.i64.wrap (p : Int) = (p : Int) := IntWalk.i64_in _ (by omega)
      have epp : ((p : Int) != (p : Int)) = false := by simp
      have hz4 := hz.below hx4
      have hr2 := hr2.mono hb.size
      have hn250 : ¬ (250 : Int) < (ng : Int) := by omega
      clear hfr hbit hnn htk hz hi hr hb hr4 hx4 hv'
      by_cases hn0 : ng = 0
      · subst hn0
        go_wp2_with fail
        refine (hu1 _ hz4).mono ?_
        rintro e w5 ⟨rfl, hx5⟩
        have hb5 := hb4.trans (hx5.mono hb4.size)
        have hi5 := hi4.below hx5
        have hz5 := hz4.below hx5
        have hr5 := hr2.below hx5
        clear hb4 hi4 hz4 hr2 hu1
        go_wp2_with fail
        refine (hu2 _ (Tz.of hr5 (by omega))).mono ?_
        rintro e w6 ⟨rfl, hx6⟩
        have hb6 := hb5.trans (hx6.mono hb5.size)
        have hi6 := hi5.below hx6
        have hz6 := hz5.below hx6
        have hr6 := hr5.below hx6
        clear hb5 hi5 hz5 hr5 hu2 hx5 hx6
        go_wp2_with fail
        refine (hr1 _ (Tz.of hr6 (by omega))).mono ?_
        rintro e w7 ⟨rfl, hx7⟩
        have hb7 := hb6.trans (hx7.mono hb6.size)
        have hi7 := hi6.below hx7
        have hz7 := hz6.below hx7
        have hr7 := hr6.below hx7
        clear hb6 hi6 hz6 hr6 hr1
        go_wp2_with fail
        refine (hr2' _ hz7).mono ?_
        rintro e w8 ⟨rfl, hx8⟩
        have hb8 := hb7.trans (hx8.mono hb7.size)
        have hi8 := hi7.below hx8
        have hr8 := hr7.below hx8
        clear hb7 hi7 hz7 hr7 hr2' hx7 hx8
        have hb9 := hb8.trans ((grow w8 (Obj.cells #[.int .i64 (i : Int)] 3)).mono hb8.size)
        have hi9 := hi8.below (grow w8 (Obj.cells #[.int .i64 (i : Int)] 3))
        have hr9 := hr8.below (grow w8 (Obj.cells #[.int .i64 (i : Int)] 3))
        have cz := own1 w8 (.int .i64 (i : Int)) 3
        go_wp2_with (at_builtin; refine app_int rfl _ _ rfl w.heap.size _ _ _ _ rfl hi9 _ (i : Int) _ rfl cz (by omega) hb9.size _ rfl ?_)
        intro g2 cap2 w10 hi10 hgr hor hb10
        have hr10 := rs_kept hr9 hi9 hgr
        have hb11 := hb9.trans hb10
        go_wp2_with fail
        go_roundw
        case rel => exact ⟨some ⟨g2, 0, none⟩, _, cap2, G ++ [(i : Int)], A2, c2, takeL l i, rfl, rfl, hi10, hr10, HN.out, hb11⟩
        case measure => simp [lenOf] <;> omega
      · obtain ⟨q, rfl⟩ : ∃ q, ng = q + 1 := ⟨ng - 1, by omega⟩
        obtain ⟨gb, rfl⟩ : ∃ g, Ag = some ⟨g, 0, none⟩ := by
          rcases hi4.form with ⟨_, h0, _⟩ | ⟨g, e, _⟩
          · omega
          · exact ⟨g, e⟩
        have eq1 : IntKind.i64.wrap (q : Int) = (q : Int) := IntWalk.i64_in _ (by omega)
        go_wp2_with fail
        refine (hu1 _ hz4).mono ?_
        rintro e w5 ⟨rfl, hx5⟩
        have hb5 := hb4.trans (hx5.mono hb4.size)
        have hi5 := hi4.below hx5
        have hz5 := hz4.below hx5
        have hr5 := hr2.below hx5
        clear hb4 hi4 hz4 hr2 hu1
        go_wp2_with fail
        refine (hu2 _ (Tz.of hr5 (by omega))).mono ?_
        rintro e w6 ⟨rfl, hx6⟩
        have hb6 := hb5.trans (hx6.mono hb5.size)
        have hi6 := hi5.below hx6
        have hz6 := hz5.below hx6
        have hr6 := hr5.below hx6
        clear hb5 hi5 hz5 hr5 hu2 hx5 hx6
        go_wp2_with fail
        refine (hr1 _ (Tz.of hr6 (by omega))).mono ?_
        rintro e w7 ⟨rfl, hx7⟩
        have hb7 := hb6.trans (hx7.mono hb6.size)
        have hi7 := hi6.below hx7
        have hz7 := hz6.below hx7
        have hr7 := hr6.below hx7
        clear hb6 hi6 hz6 hr6 hr1
        go_wp2_with fail
        refine (hr2' _ hz7).mono ?_
        rintro e w8 ⟨rfl, hx8⟩
        have hb8 := hb7.trans (hx8.mono hb7.size)
        have hi8 := hi7.below hx8
        have hr8 := hr7.below hx8
        clear hb7 hi7 hz7 hr7 hr2' hx7 hx8
        have hb9 := hb8.trans ((grow w8 (Obj.cells #[.int .i64 (i : Int)] 3)).mono hb8.size)
        have hi9 := hi8.below (grow w8 (Obj.cells #[.int .i64 (i : Int)] 3))
        have hr9 := hr8.below (grow w8 (Obj.cells #[.int .i64 (i : Int)] 3))
        have cz := own1 w8 (.int .i64 (i : Int)) 3
        have cc : w8.cell? ⟨gb, q, none⟩ = some (.int .i64 (G.getD q 0)) := hi8.cell (by omega)
        have hab := hG.above hnx (m := q) (by omega)
        have hna : ¬ (i : Int) ≤ G.getD q 0 := by omega
        generalize G.getD q 0 = zz at *
        go_wp2_with (at_builtin; refine app_int rfl _ _ rfl w.heap.size _ _ _ _ rfl hi9 _ (i : Int) _ rfl cz (by omega) hb9.size _ rfl ?_)
        intro g2 cap2 w10 hi10 hgr hor hb10
        have hr10 := rs_kept hr9 hi9 hgr
        have hb11 := hb9.trans hb10
        go_wp2_with fail
        go_roundw
        case rel => exact ⟨some ⟨g2, 0, none⟩, _, cap2, G ++ [(i : Int)], A2, c2, takeL l i, rfl, rfl, hi10, hr10, HN.out, hb11⟩
        case measure => simp [lenOf] <;> omega
end Dw
end Go.Proofs.YtjfehloohpnmpaaDoor
