/-
  For every key, nonce, head, data, place, change and other head: SealBent answers true (a bent or cut box, or one with another head, is told wherever the document tells it), and the arguments read behind the call as they read before; the two package tables are laid by the program's own text.
-/
import Derived.Test.YtdmlfibnhcdhkaaDoorRows
import Derived.Test.YtdmlfibnhcdhkaaDoorCards
import Derived.Test.YtdmlfibnhcdhkaaDoorTie
import Derived.Test.YtdmlfibnhcdhkaaDoorLw
import Derived.WalkKit
import Derived.ProofKit
import Derived.LaidMore
import Derived.OpenShut
import Derived.ShutString
import Derived.Stop.Joined
import Derived.Test.YtdmlfibnhcdhkaaDoorLb
namespace Go.Proofs.YtdmlfibnhcdhkaaDoor.sealBent
open Go.ChangeShapes Go.WideShapes Go.ChangeAt Go.RowKit
open Go.ChangeMaps (open_string shut_string)
set_option linter.unusedVariables false

theorem own : ownKnob Tryd.prog.godebug = none := by kernel_rfl
def laid2 {H : Type} : List (String × DataW H) := [("hibernacle/hash.eight", Rows.laid_hibernacle_hash_eight), ("hibernacle/hash.rows", Rows.laid_hibernacle_hash_rows)]
theorem door_met (os : Os) (args : Array Value) : laidMetH Tryd.prog laid2 ((World.doorLaid Tryd.prog 400 os).forCall (fun _ _ => 0) ⟨#[], args, []⟩).memory :=
  laidMetH_of_parts3 (fuel := 8) (laidMet_of_run' 8 (by kernel_rfl) (by kernel_rfl)) (by kernel_rfl) (by kernel_rfl)
set_option maxRecDepth 100000 in
set_option maxHeartbeats 8000000 in
theorem walk (K N : List Nat) (h s : ByteArray) (m c : Nat) (o : ByteArray) (hK : Bl.By K) (lK : K.length = 32) (hN : Bl.By N) (lN : N.length = 12) (wh : h.size ≤ maxLen) (ws : s.size ≤ maxLen) (hm : m < 65536) (hc : c < 256) (wo : o.size ≤ maxLen) (w : World) (hT : Tab w) :
    Calls Tryd.prog 5 #[.agg (vs .u8 K), .agg (vs .u8 N), .string h, .string s, .int .u16 m, .int .u8 c, .string o] w fun e w' => e = .returned (.bool true) ∧ Below w.heap.size w w' := by
  obtain ⟨V, hV⟩ : ∃ V, V = (w.alloc (Obj.cells (vs .u8 K) 23)).alloc (Obj.cells (vs .u8 N) 24) := ⟨_, rfl⟩
  have st0 := Tn.new w K N
  have st := st0
  rw [← hV] at st
  have ha := fun wr (o : Tn w wr K N) => awake_any wr (hT.below o.b)
  have HV := Lib.hid hV
  clear hV
  by_cases hbig : 300 < h.size ∨ 300 < s.size ∨ 300 < o.size ∨ c = 0
  · have dd : 300 < (h.size : Int) ∨ ((300 < (h.size : Int)) = False ∧ 300 < (s.size : Int)) ∨ ((300 < (h.size : Int)) = False ∧ (300 < (s.size : Int)) = False ∧ 300 < (o.size : Int)) ∨ ((300 < (h.size : Int)) = False ∧ (300 < (s.size : Int)) = False ∧ (300 < (o.size : Int)) = False ∧ c = 0) := by
      by_cases h1 : 300 < h.size
      · exact .inl (by omega)
      · by_cases h2 : 300 < s.size
        · exact .inr (.inl ⟨by simp; omega, by omega⟩)
        · by_cases h3 : 300 < o.size
          · exact .inr (.inr (.inl ⟨by simp; omega, by simp; omega, by omega⟩))
          · exact .inr (.inr (.inr ⟨by simp; omega, by simp; omega, by simp; omega, by omega⟩))
    clear hbig
    rcases dd with d0 | ⟨d0, d1⟩ | ⟨d0, d1, d2⟩ | ⟨d0, d1, d2, rfl⟩ <;>
    · go_enter Tryd.func5, Tryd.ntmps5
      go_wp2_with fail
      change Calls _ _ _ ((w.alloc (Obj.cells (vs .u8 K) 23)).alloc (Obj.cells (vs .u8 N) 24)) _
      rw [← HV.out]
      refine (ha _ st).mono ?_
      rintro e w1 ⟨rfl, hx⟩
      replace st := st.below hx
      go_wp2_with fail
      go_ret
      exact ⟨rfl, st.b⟩
  · have d0 : ¬ 300 < (h.size : Int) := by omega
    have d1 : ¬ 300 < (s.size : Int) := by omega
    have d2 : ¬ 300 < (o.size : Int) := by omega
    have d3 : ((c : Int) == 0) = false := by rw [beq_eq_false_iff_ne]; omega
    have zb : (boxD K N h s).size = s.size + 44 := boxD_size lN
    have h11 := fun wr (o : Tn w wr K N) => seal_any K N h s wr hK hN lK lN (hT.below o.b) (by omega) (by omega)
    have h12 := fun wr (o : Tn w wr K N) y z (hy : y.size ≤ 10000) (hz : z.size ≤ 10000) => open_any K y z wr hK lK (hT.below o.b) hy hz
    have h14 := fun wr y z (hy : y.size ≤ 10000) (hz : z.size ≤ 10000) => ropen_any K y z wr hK lK hy hz
    have hso : openD K h (boxD K N h s) = (s, 0) := open_seal hN lN
    have bb := tn_by (boxD K N h s)
    generalize boxD K N h s = b at *
    have zo : o.size ≤ 10000 := by omega
    have zh : h.size ≤ 10000 := by omega
    have zc : b.size ≤ 10000 := by omega
    have zp : 44 ≤ b.size := by omega
    clear hbig hT hK hN zb
    obtain ⟨n, hn⟩ : ∃ n, n = m % b.size := ⟨_, rfl⟩
    have ln : n < b.size := by rw [hn]; exact Nat.mod_lt _ (by omega)
    have en : (m : Int) % (b.size : Int) = (n : Int) := by rw [hn]; omega
    clear hn
    have e0 : ((b.size : Int) == 0) = false := by rw [beq_eq_false_iff_ne]; omega
    have kc := fun w => Lib.run_convert_string_bytes (P := Tryd.prog) w 9 33 5 b Tryd.underlying9 Tryd.underlying33 Tryd.underlying5
    go_enter Tryd.func5, Tryd.ntmps5
    go_wp2_with (first | (refine ld t28 rfl rfl rfl st0.k lK ?_) | (refine ld tN rfl rfl rfl st0.n lN ?_))
    change Calls _ _ _ ((w.alloc (Obj.cells (vs .u8 K) 23)).alloc (Obj.cells (vs .u8 N) 24)) _
    rw [← HV.out]
    clear HV st0
    refine (h11 _ st).mono ?_
    rintro e w1 ⟨rfl, hx⟩
    replace st := st.below hx
    clear hx
    have hg := st.n.lt
    replace st := st.below (bw_below w1 b)
    have bt := bw_bt w1 b
    have lb : (tn b).length = b.size := tn_length b
    have cz := bt.cell (j := n) (by omega)
    have cf := bt.frozen (j := n) (by omega)
    have cv := fun c => bt.conv n c (by omega)
    have gc : (n : Int) ≤ (grownCap w1 b.size 0 5 : Nat) := by have := grownCap_ge w1 b.size 0 5; omega
    have q1 := u8_xor_nat (Bl.nth (tn b) n) c (bb.nth n) hc
    have bt2 := bt.set n (Bl.nth (tn b) n ^^^ c)
    have cv2 := fun c => bt2.conv b.size c (by rw [List.length_set]; omega)
    replace st : Tn w ((Lib.bytesWorld w1 5 b).setCell ⟨w1.heap.size, n, none⟩ (.int .u8 ((Bl.nth (tn b) n ^^^ c : Nat) : Int))) K N := ⟨st.k.other _ _ (by simp; omega), st.n.other _ _ (by simp; omega), st.b.setCell (p := ⟨w1.heap.size, n, none⟩) (by simp; omega) _⟩
    obtain ⟨X, hX⟩ : ∃ X, X = bs (((tn b).set n (Bl.nth (tn b) n ^^^ c)).take b.size) := ⟨_, rfl⟩
    have zX : X.size = b.size := by rw [hX, bs_size, List.length_take, List.length_set]; omega
    rw [← hX] at cv2
    obtain ⟨Y, hY⟩ : ∃ Y, Y = bs ((tn b).take n) := ⟨_, rfl⟩
    have zY : Y.size ≤ 10000 := by rw [hY, bs_size, List.length_take]; omega
    rw [← hY] at cv
    have g1 := openD_big (K := K) (h := h) (x := X) (by omega)
    have g2 := openD_none K h Y
    have g3 := openD_big (K := K) (h := o) (x := b) (by omega)
    have ho : (openD K o b).2 = 5 → (o.toList == h.toList) = false := fun e => str_no fun e2 => by rw [e2, hso] at e; cases e
    have e14x := fun wr => h14 wr h X zh (by omega)
    have e14y := fun wr => h14 wr h Y zh zY
    have e14o := fun wr => h14 wr o b zo zc
    have e12x := fun wr st => h12 wr st h X zh (by omega)
    have e12y := fun wr st => h12 wr st h Y zh zY
    have e12o := fun wr st => h12 wr st o b zo zc
    obtain ⟨r1, hr1⟩ : ∃ r, r = openD K h X := ⟨_, rfl⟩
    obtain ⟨r2, hr2⟩ : ∃ r, r = openD K h Y := ⟨_, rfl⟩
    obtain ⟨r3, hr3⟩ : ∃ r, r = openD K o b := ⟨_, rfl⟩
    rw [← hr1] at g1 e14x e12x
    rw [← hr2] at g2 e14y e12y
    rw [← hr3] at g3 ho e14o e12o
    clear hr1 hr2 hr3 h12 h14 hso
    obtain ⟨x1, n1⟩ := r1
    obtain ⟨x2, n2⟩ := r2
    obtain ⟨x3, n3⟩ := r3
    replace g1 : n1 = 0 ∨ (x1 = ⟨#[]⟩ ∧ n1 = 5) := by
      rcases g1 with e | e
      · exact .inl e
      · cases e; exact .inr ⟨rfl, rfl⟩
    replace g3 : n3 = 0 ∨ (x3 = ⟨#[]⟩ ∧ n3 = 5) := by
      rcases g3 with e | e
      · exact .inl e
      · cases e; exact .inr ⟨rfl, rfl⟩
    replace g2 : n2 = 0 ∨ (((n2 : Int) == 0) = false ∧ x2 = ⟨#[]⟩) := by
      by_cases h0 : n2 = 0
      · exact .inl h0
      · exact .inr ⟨by rw [beq_eq_false_iff_ne]; omega, g2.resolve_left h0⟩
    replace ho : n3 = 5 → (o.toList == h.toList) = false := ho
    have G := Lib.hid (And.intro g1 (And.intro g2 (And.intro g3 ho)))
    have E14 := Lib.hid (And.intro e14x (And.intro e14y e14o))
    have E12 := Lib.hid (And.intro e12x (And.intro e12y e12o))
    clear bt bt2 hX hY bb hg g1 g2 g3 ho e14x e14y e14o e12x e12y e12o
    go_wp2_with (first | (refine ld t28 rfl rfl rfl st.k lK ?_) | (refine ld tN rfl rfl rfl st.n lN ?_))
    refine (h11 _ st).mono ?_
    rintro e v0 ⟨rfl, hx⟩
    replace st := st.below hx
    clear hx
    clear cv cv2 q1 cz cf
    go_wp2_with (refine ld t28 rfl rfl rfl st.k lK ?_)
    refine (E14.out.1 _).mono ?_
    rintro e v1 ⟨rfl, hx⟩
    replace st := st.below hx
    clear hx
    rcases G.out.1 with rfl | ⟨rfl, rfl⟩
    · go_wp2_with (refine ld t28 rfl rfl rfl st.k lK ?_)
      refine (E14.out.2.1 _).mono ?_
      rintro e v3 ⟨rfl, hx⟩
      replace st := st.below hx
      clear hx
      rcases G.out.2.1 with rfl | ⟨z2, rfl⟩
      · go_wp2_with (refine ld t28 rfl rfl rfl st.k lK ?_)
        refine (E14.out.2.2 _).mono ?_
        rintro e v5 ⟨rfl, hx⟩
        replace st := st.below hx
        clear hx
        rcases G.out.2.2.1 with rfl | ⟨rfl, rfl⟩
        · clear E12 G
          go_wp2_with fail
          refine (ha _ st).mono ?_
          rintro e v6 ⟨rfl, hx⟩
          replace st := st.below hx
          clear hx
          go_wp2_with fail
          go_ret
          exact ⟨rfl, st.b⟩
        · have ho := G.out.2.2.2 rfl
          go_wp2_with (refine ld t28 rfl rfl rfl st.k lK ?_)
          refine (E12.out.2.2 _ st).mono ?_
          rintro e v6 ⟨rfl, hx⟩
          replace st := st.below hx
          clear hx
          go_wp2_with fail
          refine (ha _ st).mono ?_
          rintro e v7 ⟨rfl, hx⟩
          replace st := st.below hx
          clear hx
          go_wp2_with fail
          go_ret
          exact ⟨rfl, st.b⟩
      · go_wp2_with (refine ld t28 rfl rfl rfl st.k lK ?_)
        refine (E12.out.2.1 _ st).mono ?_
        rintro e v4 ⟨rfl, hx⟩
        replace st := st.below hx
        clear hx
        go_wp2_with (refine ld t28 rfl rfl rfl st.k lK ?_)
        refine (E14.out.2.2 _).mono ?_
        rintro e v5 ⟨rfl, hx⟩
        replace st := st.below hx
        clear hx
        rcases G.out.2.2.1 with rfl | ⟨rfl, rfl⟩
        · clear E12 G
          go_wp2_with fail
          refine (ha _ st).mono ?_
          rintro e v6 ⟨rfl, hx⟩
          replace st := st.below hx
          clear hx
          go_wp2_with fail
          go_ret
          exact ⟨rfl, st.b⟩
        · have ho := G.out.2.2.2 rfl
          go_wp2_with (refine ld t28 rfl rfl rfl st.k lK ?_)
          refine (E12.out.2.2 _ st).mono ?_
          rintro e v6 ⟨rfl, hx⟩
          replace st := st.below hx
          clear hx
          go_wp2_with fail
          refine (ha _ st).mono ?_
          rintro e v7 ⟨rfl, hx⟩
          replace st := st.below hx
          clear hx
          go_wp2_with fail
          go_ret
          exact ⟨rfl, st.b⟩
    · go_wp2_with (refine ld t28 rfl rfl rfl st.k lK ?_)
      refine (E12.out.1 _ st).mono ?_
      rintro e v2 ⟨rfl, hx⟩
      replace st := st.below hx
      clear hx
      go_wp2_with (refine ld t28 rfl rfl rfl st.k lK ?_)
      refine (E14.out.2.1 _).mono ?_
      rintro e v3 ⟨rfl, hx⟩
      replace st := st.below hx
      clear hx
      rcases G.out.2.1 with rfl | ⟨z2, rfl⟩
      · go_wp2_with (refine ld t28 rfl rfl rfl st.k lK ?_)
        refine (E14.out.2.2 _).mono ?_
        rintro e v5 ⟨rfl, hx⟩
        replace st := st.below hx
        clear hx
        rcases G.out.2.2.1 with rfl | ⟨rfl, rfl⟩
        · clear E12 G
          go_wp2_with fail
          refine (ha _ st).mono ?_
          rintro e v6 ⟨rfl, hx⟩
          replace st := st.below hx
          clear hx
          go_wp2_with fail
          go_ret
          exact ⟨rfl, st.b⟩
        · have ho := G.out.2.2.2 rfl
          go_wp2_with (refine ld t28 rfl rfl rfl st.k lK ?_)
          refine (E12.out.2.2 _ st).mono ?_
          rintro e v6 ⟨rfl, hx⟩
          replace st := st.below hx
          clear hx
          go_wp2_with fail
          refine (ha _ st).mono ?_
          rintro e v7 ⟨rfl, hx⟩
          replace st := st.below hx
          clear hx
          go_wp2_with fail
          go_ret
          exact ⟨rfl, st.b⟩
      · go_wp2_with (refine ld t28 rfl rfl rfl st.k lK ?_)
        refine (E12.out.2.1 _ st).mono ?_
        rintro e v4 ⟨rfl, hx⟩
        replace st := st.below hx
        clear hx
        go_wp2_with (refine ld t28 rfl rfl rfl st.k lK ?_)
        refine (E14.out.2.2 _).mono ?_
        rintro e v5 ⟨rfl, hx⟩
        replace st := st.below hx
        clear hx
        rcases G.out.2.2.1 with rfl | ⟨rfl, rfl⟩
        · clear E12 G
          go_wp2_with fail
          refine (ha _ st).mono ?_
          rintro e v6 ⟨rfl, hx⟩
          replace st := st.below hx
          clear hx
          go_wp2_with fail
          go_ret
          exact ⟨rfl, st.b⟩
        · have ho := G.out.2.2.2 rfl
          go_wp2_with (refine ld t28 rfl rfl rfl st.k lK ?_)
          refine (E12.out.2.2 _ st).mono ?_
          rintro e v6 ⟨rfl, hx⟩
          replace st := st.below hx
          clear hx
          go_wp2_with fail
          refine (ha _ st).mono ?_
          rintro e v7 ⟨rfl, hx⟩
          replace st := st.below hx
          clear hx
          go_wp2_with fail
          go_ret
          exact ⟨rfl, st.b⟩

set_option maxRecDepth 100000 in
theorem lifted (os : Os) (started : os.Started) (H : Type) (enc : TypeId × Value → H) :
    ReturnsInHanded {} Tryd.checked os 5 .any (fun w args => (Rows.sealBentSpec.pre enc Tryd.prog Tryd.f5 [] false w args ∧ laidMetH Tryd.prog laid2 w) ∧ sizedMet enc Tryd.prog Tryd.f5 (OpenSpec.ofChange Rows.sealBentSpec) false w args)
      (Rows.sealBentSpec.post enc Tryd.prog Tryd.f5 false true false false) := by
  refine returnsInHanded_of_change_and (C := Tryd.checked) (X := fun w _ => laidMetH Tryd.prog laid2 w) (fun _ _ _ hh h => h.of_heap hh) own started (by kernel_rfl) Tryd.func5
    (ChangeSpec.witness_shaped (enc := enc) (C := Tryd.checked) (os := os) (X := fun w _ => laidMetH Tryd.prog laid2 w) false (World.doorLaid Tryd.prog 400 os) #[.agg (Array.replicate 32 (.int .u8 0)), .agg (Array.replicate 12 (.int .u8 0)), .string ByteArray.empty, .string ByteArray.empty, .int .u16 0, .int .u8 0, .string ByteArray.empty] 8 rfl (World.shaped_of_RefB (by kernel_rfl) (by kernel_rfl)) (by kernel_rfl) (by kernel_rfl) (by kernel_rfl) (door_met os _)) ?_
  intro W base args ds gs before hval0 hW _ _ hL _
  have hval : ∀ (j : Nat) t v, Tryd.f5.params[j]? = some t → args[j]? = some v → Value.okWide Tryd.prog W .any base t v := hval0
  have hW' := hW
  obtain ⟨p, q, hA0, hV, rfl, hfz, hnd⟩ := hW
  have hA : DataW.TrodAll enc Tryd.prog W 0 (fun _ => true) true Tryd.f5.params.toList args.toList ds p := hA0
  rw [Tryd.params5] at hA hval
  obtain ⟨v0, vs0, d0, ds0, p0, q0, hargs, rfl, rfl, h0, r0⟩ := trodAll_cons hA
  obtain ⟨v1, vs1, d1, ds1, p1, q1, rfl, rfl, rfl, h1, r1⟩ := trodAll_cons r0
  obtain ⟨v2, vs2, d2, ds2, p2, q2, rfl, rfl, rfl, h2, r2⟩ := trodAll_cons r1
  obtain ⟨v3, vs3, d3, ds3, p3, q3, rfl, rfl, rfl, h3, r3⟩ := trodAll_cons r2
  obtain ⟨v4, vs4, d4, ds4, p4, q4, rfl, rfl, rfl, h4, r4⟩ := trodAll_cons r3
  obtain ⟨v5, vs5, d5, ds5, p5, q5, rfl, rfl, rfl, h5, r5⟩ := trodAll_cons r4
  obtain ⟨v6, vs6, d6, ds6, p6, q6, rfl, rfl, rfl, h6, r6⟩ := trodAll_cons r5
  obtain ⟨rfl, rfl, rfl⟩ := trodAll_nil r6
  obtain rfl : args = #[v0, v1, v2, v3, v4, v5, v6] := by cases args; simp_all
  obtain ⟨rfl, rfl⟩ := trodVars_none hV
  obtain ⟨K0, rfl, l0, b0⟩ := okKey (hval 0 23 v0 rfl rfl)
  have k0 := h0
  have lt0 : ∀ x ∈ p0, x.block < W.heap.size := by obtain ⟨m, hm⟩ := k0; exact DataW.trod_lt m _ _ _ hm
  obtain ⟨K1, rfl, l1, b1⟩ := okNon (hval 1 24 v1 rfl rfl)
  have k1 := h1
  have lt1 : ∀ x ∈ p1, x.block < W.heap.size := by obtain ⟨m, hm⟩ := k1; exact DataW.trod_lt m _ _ _ hm
  obtain ⟨a2, rfl, rfl, rfl, w2⟩ := open_string Tryd.underlying9 (hval 2 9 v2 rfl rfl) h2
  obtain ⟨a3, rfl, rfl, rfl, w3⟩ := open_string Tryd.underlying9 (hval 3 9 v3 rfl rfl) h3
  obtain ⟨n4, rfl, rfl, rfl, w4⟩ := open_int Tryd.underlying32 (hval 4 32 v4 rfl rfl) h4
  obtain ⟨m4, rfl, z4⟩ := nat_u16 w4
  obtain ⟨n5, rfl, rfl, rfl, w5⟩ := open_int Tryd.underlying5 (hval 5 5 v5 rfl rfl) h5
  obtain ⟨m5, rfl, z5⟩ := nat_u8 w5
  obtain ⟨a6, rfl, rfl, rfl, w6⟩ := open_string Tryd.underlying9 (hval 6 9 v6 rfl rfl) h6
  have hT := of_laid hL
  clear hA0 hval0
  refine (walk K0 K1 a2 a3 m4 m5 a6 b0 l0 b1 l1 w2 w3 z4 z5 w6 W hT).mono fun e W' ⟨he, bel⟩ => ?_
  subst he
  exact ⟨_, rfl, _, _, _, [], _, [], hW', trodAll_mk1 (shut_bool Tryd.underlying4 _), (trodAll_cons_mk (Below.trod laidOut (by kernel_rfl) (of_decide_eq_true (by kernel_rfl)) k0 bel lt0) (trodAll_cons_mk (Below.trod laidOut (by kernel_rfl) (of_decide_eq_true (by kernel_rfl)) k1 bel lt1) (trodAll_cons_mk (shut_string Tryd.underlying9 w2) (trodAll_cons_mk (shut_string Tryd.underlying9 w3) (trodAll_cons_mk (shut_int Tryd.underlying32 w4) (trodAll_cons_mk (shut_int Tryd.underlying5 w5) (trodAll_cons_mk (shut_string Tryd.underlying9 w6) trodAll_mk0))))))), rfl, bel.frame _, fun h => by cases h⟩

theorem bare : Rows.SealBentSaid :=
  OpenClaim.holds_of_wide 5 Tryd.f5 rfl rfl rfl rfl rfl rfl rfl ⟨rfl, rfl, rfl, rfl, rfl⟩ rfl rfl rfl rfl rfl (by kernel_rfl) Tryd.func5 (by kernel_rfl)
    (of_decide_eq_true (by kernel_rfl)) (by unfold Func.isWrapper; first | (rw [if_pos (by decide +kernel)]; kernel_rfl) | (rw [if_neg (by decide +kernel)]; exact ⟨rfl, rfl⟩))
    (fun os started H enc _ => lifted os started H enc)

/-- the statement -/
theorem proved : Rows.SealBentCardSaid :=
  Claim7.holds_tied_plain_at .later [] [.data, .data] true Rows.sealBentCard.stood.harness false
    bare (fun _ h => by cases h) (by kernel_rfl) (fun _ h => by cases h) sealBent_row_tie rfl ⟨rfl, rfl⟩ (by kernel_rfl) rfl
    (fun f fn hf hfn => by
      obtain rfl : f = 5 := Option.some.inj ((show Tryd.prog.funcNamed "hibernacle/hibernaclelaw04.SealBent" = some 5 by kernel_rfl).symm.trans hf) |>.symm
      obtain rfl : fn = Tryd.f5 := (Option.some.inj (Tryd.func5.symm.trans hfn)).symm
      exact ⟨by kernel_rfl, fun j t ht => by
        rw [Tryd.params5] at ht
        have hm : t ∈ [23, 24, 9, 9, 32, 5, 9] := by simpa using Array.mem_of_getElem? ht
        have hall : ([23, 24, 9, 9, 32, 5, 9].all fun u => !Tryd.prog.wantsStandIn u) = true := by kernel_rfl
        exact (show Tryd.prog.wantsStandIn t = false by simpa using List.all_eq_true.1 hall t hm)⟩)
    (by kernel_rfl)
end Go.Proofs.YtdmlfibnhcdhkaaDoor.sealBent
