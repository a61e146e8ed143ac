/-
  For every text, pick and behind ParityThree answers true: three parts, whatever behind them, are the text; two are too few; the arguments read as before.
-/
import Derived.Test.YtgfnpemonpebpaaRows
import Derived.Test.YtgfnpemonpebpaaOq
import Derived.WalkKit
import Derived.ProofKit
import Derived.OpenShut
import Derived.ShutString
import Derived.Test.YtgfnpemonpebpaaTh
namespace Go.Proofs.Ytgfnpemonpebpaa.parityThree
open Go.ChangeShapes Go.WideShapes Go.ChangeAt Go.RowKit
open Go.ChangeMaps (open_string shut_string)
set_option linter.unusedVariables false
set_option linter.unusedSimpArgs false

theorem own : ownKnob Try.prog.godebug = none := by kernel_rfl
set_option maxRecDepth 100000 in
set_option maxHeartbeats 4000000 in
theorem walk (D : ByteArray) (K : List Nat) (A : Option Addr) (m cap : Nat) (l : List (Int × ByteArray)) (W : World) (wD : D.size ≤ maxLen) (bK : Gf.Bytes K) (lK : K.length = 3) (hl : Ps W A l ∧ l.length = m ∧ (A = none → cap = 0)) (hmm : m ≤ maxLen) :
    Calls Try.prog 5 #[.string D, .agg (vs K), .slice A m cap] W fun e w' => e = .returned (.bool true) ∧ Below W.heap.size W w' := by
  have hf := fun w => fixed_any w
  have oK := Own.new W 34 (vs K)
  have bA := (Below.refl W.heap.size W).alloc (Nat.le_refl _) (Obj.cells (vs K) 34)
  by_cases hD : 3000 < D.size
  · have d0 : 3000 < (D.size : Int) := by omega
    go_enter Try.func5, Try.ntmps5
    go_wp2_with (go_at_call 9; refine (hf _).mono ?_; rintro e w1 ⟨rfl, hb⟩)
    go_ret
    exact ⟨rfl, bA.trans (hb.mono bA.size)⟩
  · have d0 : ¬ 3000 < (D.size : Int) := by omega
    by_cases hm : 10 < m
    · have d1 : 10 < (m : Int) := by omega
      go_enter Try.func5, Try.ntmps5
      go_wp2_with (go_at_call 9; refine (hf _).mono ?_; rintro e w1 ⟨rfl, hb⟩)
      go_ret
      exact ⟨rfl, bA.trans (hb.mono bA.size)⟩
    · have d1 : ¬ 10 < (m : Int) := by omega
      have h1 := fun w => cut_any D (by omega) w
      have HD := Lib.hid (And.intro bK (And.intro lK (And.intro hl (show D.size ≤ 3000 by omega))))
      have hG : (W.alloc (Obj.cells (vs K) 34)).heap.size = W.heap.size + 1 := (sz1 _ _).symm
      have hm10 : m ≤ 10 := by omega
      clear bK lK hl hmm wD hD hm
      go_enter Try.func5, Try.ntmps5
      go_wp2_with fail
      generalize W.alloc (Obj.cells (vs K) 34) = w0 at *
      refine (h1 _).mono ?_
      clear h1
      rintro e w1 ⟨g0, c0, rfl, hg0, hg0', hc0, hp0, hb0⟩
      rw [five_pr] at hp0
      generalize hB : w0.heap.size = B at *
      have HB := Lib.hid hB
      clear hB
      go_wp2_with fail
      go_loopw [7, 8, 29] (fun lv tv i wr => ∃ (k n gl cl c3 : Nat) (A3 : Option Addr) (ch idx : List Nat), k + n = 5 ∧ k ≤ 3 ∧ i = .int .i64 (k : Int) ∧ lv = .slice (some ⟨gl, 0, none⟩) n cl ∧ tv = .slice A3 k c3 ∧ idx.length = n ∧ ch.length = k ∧ Lot ch idx ∧ n ≤ cl ∧ gl < wr.heap.size ∧ B ≤ gl ∧ A3 ≠ some ⟨gl, 0, none⟩ ∧ Pl wr gl 0 (idx.map (pr D)) ∧ RP wr B A3 k c3 (ch.map (pr D)) ∧ Below B w0 wr) (fun _ _ i _ => 3 - (intOf i).toNat)
      case atStart => exact ⟨0, 5, g0, c0, 0, none, [], _, rfl, by omega, rfl, rfl, rfl, rfl, rfl, Lot.start, hc0, hg0', hg0, by simp, hp0, ⟨rfl, w1.ownsRow_nil B 29 2⟩, hb0⟩
      case round =>
        clear hp0 hb0 hg0 hg0' hc0
        obtain ⟨k, n, gl, cl, c3, A3, ch, idx, hkn, hk3, rfl, rfl, rfl, hli, hlc, hLot, hncl, hgl, hBgl, hne, hp, hR, bW⟩ := hrel
        by_cases hk : k < 3
        · have k0 : (k : Int) < 3 := by omega
          obtain ⟨j, hj⟩ : ∃ j, j = Gf.nth K k % n := ⟨_, rfl⟩
          have hjn : j < n := by rw [hj]; exact Nat.mod_lt _ (by omega)
          have bk := HD.out.1.at_ k
          have v1 : Int.tmod (Gf.nth K k : Int) (n : Int) = (j : Int) := by rw [hj]; exact (Int.ofNat_tmod _ _).symm
          have v2 : (Gf.nth K k : Int) % (n : Int) = (j : Int) := by rw [hj]; simp
          have wp : IntKind.i64.wrap (Gf.nth K k : Int) = (Gf.nth K k : Int) := IntWalk.i64_in _ (by omega)
          have ek : IntKind.i64.wrap ((k : Int) + 1) = (k : Int) + 1 := IntWalk.i64_in _ (by omega)
          have ej : IntKind.i64.wrap ((j : Int) + 1) = (j : Int) + 1 := IntWalk.i64_in _ (by omega)
          have n0 : ¬ n = 0 := by omega
          have j0 : (j : Int) < (n : Int) := by omega
          obtain ⟨a, ha⟩ : ∃ a, idx[j]? = some a := ⟨idx[j]'(by omega), List.getElem?_eq_getElem _⟩
          have hstep := hLot.step ha
          have cK := (oK.belowB bW (by have := HB.out; omega)).cellb (i := k) (by rw [HD.out.2.1]; exact hk)
          obtain ⟨q1, q2⟩ := hp j (pr D a) (by rw [List.getElem?_map, ha]; rfl)
          simp only [Nat.zero_add] at q1 q2
          have HJ := Lib.hid (And.intro hj (And.intro ha hstep))
          have HL := Lib.hid (And.intro hli (And.intro hlc hLot))
          clear hj ha hstep hli hlc hLot
          generalize hpa : pr D a = pa at *
          obtain ⟨I, S⟩ := pa
          have HP := Lib.hid hpa
          clear hpa
          simp only at q1 q2
          have cc := cell_two_new wr (.int .i64 I) (.string S) 29
          have cc1 := cc 0 _ rfl
          have cc2 := cc 1 _ rfl
          have kA : Below wr.heap.size wr (wr.alloc (Obj.cells #[.int .i64 I, .string S] 29)) := (Below.refl _ wr).alloc (Nat.le_refl _) _
          have hpA := hp.below kA
          have hRA := hR.below kA
          have sA := (sz1 wr (Obj.cells #[.int .i64 I, .string S] 29)).symm
          have hBr : B ≤ wr.heap.size := by have := HB.out; have := bW.size; omega
          have bWA := bW.trans (kA.mono hBr)
          clear cc hp hR kA bW
          go_wp2_with (at_builtin; refine app_part2 rfl _ _ rfl B _ k c3 (ch.map (pr D)) rfl hRA wr.heap.size 1 (I, S) rfl cc1 cc2 (by omega) ?c3 (wr.heap.size + 1) ?c4 ?_; go_must (case c3 => (rw [sA]; omega)); go_must (case c4 => exact sA); intro g5 c5 w8 r8 b8 o8 bb8)
          have hp8 : Pl w8 gl 0 (idx.map (pr D)) := hpA.kept (b8.block gl (by rw [sA]; omega) (by
            rcases hRA.form with ⟨rfl, _⟩ | ⟨g', rfl, _, _⟩
            · simp [Value.ownBlock]
            · intro e
              simp [Value.ownBlock] at e
              exact hne (by rw [e])))
          have bW8 := bWA.trans bb8
          have hgl8 : gl < w8.heap.size := by have := b8.size; omega
          have hg8 := r8.form
          clear hpA hRA b8 bb8 o8 bWA q1 q2 cc1 cc2 cK
          have j1 : (j : Int) ≤ (cl : Int) := by omega
          have j2 : ¬ (n : Int) < (j : Int) + 1 := by omega
          have j3 : (j : Int) + 1 ≤ (n : Int) := by omega
          by_cases hcl : cl = j + 1
          · have hn : n = j + 1 := by omega
            have hnil : idx.drop (j + 1) = [] := List.drop_eq_nil_of_le (by rw [HL.out.1]; omega)
            have e1 : ((j : Int) + 1).toNat = j + 1 := by omega
            have hx8 : w8.heap.size ≤ w8.drew.heap.size := Nat.le_refl _
            replace hp8 := hp8.drew
            replace r8 := r8.drew
            replace bW8 := bW8.drew
            refine wp_region_held_drew (S := fun w' => Below w8.drew.heap.size w8.drew w') (by kernel_rfl) (Below.refl _ _) (fun hH => ?_)
            generalize w8.drew = x0 at *
            have hp1 := hp8.take j
            rw [← List.map_take] at hp1
            have hBx : B ≤ x0.heap.size := by have := HB.out; have := bW8.size; omega
            have oP : RP (x0.alloc (Obj.cells #[] 29)) B (some ⟨x0.heap.size, 0, none⟩) 0 0 [] := ⟨rfl, World.ownsRow_made x0 #[] 0 hBx (by decide) rfl⟩
            refine tkH (v := ?_) (i := 1) rfl (by kernel_rfl) (by kernel_rfl) (by kernel_rfl) (fun _ _ _ h => h) hH (Or.inl ⟨by rfl, ?_⟩) ?_
            rotate_left
            · intro wq hq
              go_simp
              try rfl
            try simp only [Act.put, List.setIfInBounds_toArray, List.set_cons_zero, List.set_cons_succ]
            refine tkH (v := ?_) (i := 2) rfl (by kernel_rfl) (by kernel_rfl) (by kernel_rfl) (fun _ _ _ h => h) hH (Or.inl ⟨by rfl, ?_⟩) ?_
            rotate_left
            · intro wq hq
              go_simp
              try rfl
            try simp only [Act.put, List.setIfInBounds_toArray, List.set_cons_zero, List.set_cons_succ]
            refine tkH (v := ?_) (i := 3) rfl (by kernel_rfl) (by kernel_rfl) (by kernel_rfl) (fun _ _ _ h => h) hH (Or.inl ⟨by rfl, ?_⟩) ?_
            rotate_left
            · intro wq hq
              go_simp
              try (rw [if_pos (show (j : Int) ≤ (j : Int) + 1 by omega)] <;> rfl)
            try simp only [Act.put, List.setIfInBounds_toArray, List.set_cons_zero, List.set_cons_succ]
            refine tkH (v := ?_) (i := 5) rfl (by kernel_rfl) (by kernel_rfl) (by kernel_rfl) (fun _ _ _ h => h) hH (Or.inl ⟨by rfl, ?_⟩) ?_
            rotate_left
            · intro wq hq
              go_simp
              try rfl
            try simp only [Act.put, List.setIfInBounds_toArray, List.set_cons_zero, List.set_cons_succ]
            refine tkH (v := ?_) (i := 6) rfl (by kernel_rfl) (by kernel_rfl) (by kernel_rfl) (fun _ _ _ h => h) hH (Or.inl ⟨by rfl, ?_⟩) ?_
            rotate_left
            · intro wq hq
              go_simp
              try rfl
            try simp only [Act.put, List.setIfInBounds_toArray, List.set_cons_zero, List.set_cons_succ]
            refine tkH (v := ?_) (i := 7) rfl (by kernel_rfl) (by kernel_rfl) (by kernel_rfl) (fun _ _ _ h => h) hH (Or.inl ⟨by rfl, ?_⟩) ?_
            rotate_left
            · intro wq hq
              go_simp
              try rfl
            try simp only [Act.put, List.setIfInBounds_toArray, List.set_cons_zero, List.set_cons_succ]
            refine tkH (v := ?_) (i := 8) rfl (by kernel_rfl) (by kernel_rfl) (by kernel_rfl) (fun _ _ _ h => h) hH (Or.inl ⟨by rfl, ?_⟩) ?_
            rotate_left
            · intro wq hq
              go_simp
              try rfl
            try simp only [Act.put, List.setIfInBounds_toArray, List.set_cons_zero, List.set_cons_succ]
            refine efH (i := 0) rfl (by kernel_rfl) (by rfl) (fun KK hKK => ?_)
            go_simp
            refine hKK.out _ _ (hH.alloc hH.size _) (fun hH => ?_)
            clear hKK KK
            try simp only [Act.put, List.setIfInBounds_toArray, List.set_cons_zero, List.set_cons_succ]
            refine efH (i := 4) rfl (by kernel_rfl) (by rfl) (fun KK hKK => ?_)
            refine wp_append_parts _ _ rfl B x0.heap.size 0 0 [] rfl oP gl 0 j (j + 1) ((idx.take j).map (pr D)) rfl (hp1.below hH) (by rw [List.length_map, List.length_take, HL.out.1]; omega) (by omega) (Nat.le_trans hBx hH.size) ?_
            intro g9 c9 w9 r9 gr9 og9
            refine hKK.out _ _ (hH.grown gr9 hH.size (fun k hk => by cases hk; omega)) (fun hH => ?_)
            clear hKK KK
            try simp only [Act.put, List.setIfInBounds_toArray, List.set_cons_zero, List.set_cons_succ]
            have hg9 : x0.heap.size ≤ g9 := by
              have := sz1 x0 (Obj.cells #[] 29)
              rcases og9 with h | h <;> omega
            refine efH (i := 9) rfl (by kernel_rfl) (by rfl) (fun KK hKK => ?_)
            refine wp_append_parts _ _ rfl B g9 (0 + j) c9 _ rfl r9 gl (0) 0 0 ((idx.drop (j + 1)).map (pr D)) rfl (fun i y h => by simp [hnil] at h) (by rw [List.length_map, List.length_drop, HL.out.1]; omega) (by omega) (Nat.le_trans hBx hH.size) ?_
            intro g7 c7 w7 r7 gr7 og7
            refine hKK.out _ _ (hH.grown gr7 hH.size (fun k hk => by cases hk; omega)) (fun hH => ?_)
            clear hKK KK
            try simp only [Act.put, List.setIfInBounds_toArray, List.set_cons_zero, List.set_cons_succ]
            refine tkH (v := ?_) (i := 10) rfl (by kernel_rfl) (by kernel_rfl) (by kernel_rfl) (fun _ _ _ h => h) hH (Or.inl ⟨by rfl, ?_⟩) ?_
            rotate_left
            · intro wq hq
              go_simp
              try rfl
            try simp only [Act.put, List.setIfInBounds_toArray, List.set_cons_zero, List.set_cons_succ]
            refine wpAnyH_done (by kernel_rfl) ?_ _
            try simp only [Act.put, List.getElem_toArray, List.getElem_cons_zero, List.getElem_cons_succ, List.setIfInBounds_toArray, List.set_cons_zero, List.set_cons_succ]
            have hs8 := hH.size
            have hg7 : x0.heap.size ≤ g7 := by
              have := gr9.size
              have := sz1 x0 (Obj.cells #[] 29)
              rcases og7 with h | h <;> omega
            have hg5 : g5 < x0.heap.size := by
              rcases hg8 with ⟨h, _⟩ | ⟨g, h, _, h3⟩
              · cases h
              · injection h with h; injection h with h _ _; omega
            have hf7 : g7 < w7.heap.size := by
              rcases r7.form with ⟨h, _⟩ | ⟨g, h, _, h3⟩
              · cases h
              · injection h with h; injection h with h _ _; omega
            go_wp2_with fail
            go_roundw
            case rel =>
              refine ⟨k + 1, 0 + j + (n - (j + 1)), g7, c7, c5, some ⟨g5, 0, none⟩, ch ++ [a], idx.take j ++ idx.drop (j + 1), by omega, by omega, by go_num, ?_, rfl, ?_, ?_, HJ.out.2.2, ?_, hf7, by omega, ?_, ?_, ?_, ?_⟩
              · first | rfl | (congr 1; omega)
              · have := HL.out.1; simp; omega
              · have := HL.out.2.1; simp; omega
              · have := r7.cap; omega
              · intro e; injection e with e; injection e with e _ _; omega
              · have := r7.pl; rw [List.nil_append, ← List.map_append] at this; exact this
              · have := r8.below hH; rw [← HP.out] at this; rw [List.map_append]; exact this
              · exact bW8.trans (hH.mono (by have := HB.out; have := bW8.size; omega))
            case measure => first | (simp [intOf]; done) | (simp [intOf]; omega)
          · have hp2 := hp8.drew.drop (j + 1)
            rw [← List.map_drop, Nat.zero_add] at hp2
            have e1 : ((j : Int) + 1).toNat = j + 1 := by omega
            have hx8 : w8.heap.size ≤ w8.drew.heap.size := Nat.le_refl _
            replace hp8 := hp8.drew
            replace r8 := r8.drew
            replace bW8 := bW8.drew
            refine wp_region_held_drew (S := fun w' => Below w8.drew.heap.size w8.drew w') (by kernel_rfl) (Below.refl _ _) (fun hH => ?_)
            generalize w8.drew = x0 at *
            have hp1 := hp8.take j
            rw [← List.map_take] at hp1
            have hBx : B ≤ x0.heap.size := by have := HB.out; have := bW8.size; omega
            have oP : RP (x0.alloc (Obj.cells #[] 29)) B (some ⟨x0.heap.size, 0, none⟩) 0 0 [] := ⟨rfl, World.ownsRow_made x0 #[] 0 hBx (by decide) rfl⟩
            refine tkH (v := ?_) (i := 1) rfl (by kernel_rfl) (by kernel_rfl) (by kernel_rfl) (fun _ _ _ h => h) hH (Or.inl ⟨by rfl, ?_⟩) ?_
            rotate_left
            · intro wq hq
              go_simp
              try rfl
            try simp only [Act.put, List.setIfInBounds_toArray, List.set_cons_zero, List.set_cons_succ]
            refine tkH (v := ?_) (i := 2) rfl (by kernel_rfl) (by kernel_rfl) (by kernel_rfl) (fun _ _ _ h => h) hH (Or.inl ⟨by rfl, ?_⟩) ?_
            rotate_left
            · intro wq hq
              go_simp
              try rfl
            try simp only [Act.put, List.setIfInBounds_toArray, List.set_cons_zero, List.set_cons_succ]
            refine tkH (v := ?_) (i := 3) rfl (by kernel_rfl) (by kernel_rfl) (by kernel_rfl) (fun _ _ _ h => h) hH (Or.inl ⟨by rfl, ?_⟩) ?_
            rotate_left
            · intro wq hq
              go_simp
              try rfl
            try simp only [Act.put, List.setIfInBounds_toArray, List.set_cons_zero, List.set_cons_succ]
            refine tkH (v := ?_) (i := 5) rfl (by kernel_rfl) (by kernel_rfl) (by kernel_rfl) (fun _ _ _ h => h) hH (Or.inl ⟨by rfl, ?_⟩) ?_
            rotate_left
            · intro wq hq
              go_simp
              try rfl
            try simp only [Act.put, List.setIfInBounds_toArray, List.set_cons_zero, List.set_cons_succ]
            refine tkH (v := ?_) (i := 6) rfl (by kernel_rfl) (by kernel_rfl) (by kernel_rfl) (fun _ _ _ h => h) hH (Or.inl ⟨by rfl, ?_⟩) ?_
            rotate_left
            · intro wq hq
              go_simp
              try rfl
            try simp only [Act.put, List.setIfInBounds_toArray, List.set_cons_zero, List.set_cons_succ]
            refine tkH (v := ?_) (i := 7) rfl (by kernel_rfl) (by kernel_rfl) (by kernel_rfl) (fun _ _ _ h => h) hH (Or.inl ⟨by rfl, ?_⟩) ?_
            rotate_left
            · intro wq hq
              go_simp
              try rfl
            try simp only [Act.put, List.setIfInBounds_toArray, List.set_cons_zero, List.set_cons_succ]
            refine tkH (v := ?_) (i := 8) rfl (by kernel_rfl) (by kernel_rfl) (by kernel_rfl) (fun _ _ _ h => h) hH (Or.inl ⟨by rfl, ?_⟩) ?_
            rotate_left
            · intro wq hq
              go_simp
              try rfl
            try simp only [Act.put, List.setIfInBounds_toArray, List.set_cons_zero, List.set_cons_succ]
            refine efH (i := 0) rfl (by kernel_rfl) (by rfl) (fun KK hKK => ?_)
            go_simp
            refine hKK.out _ _ (hH.alloc hH.size _) (fun hH => ?_)
            clear hKK KK
            try simp only [Act.put, List.setIfInBounds_toArray, List.set_cons_zero, List.set_cons_succ]
            refine efH (i := 4) rfl (by kernel_rfl) (by rfl) (fun KK hKK => ?_)
            refine wp_append_parts _ _ rfl B x0.heap.size 0 0 [] rfl oP gl 0 j cl ((idx.take j).map (pr D)) rfl (hp1.below hH) (by rw [List.length_map, List.length_take, HL.out.1]; omega) (by omega) (Nat.le_trans hBx hH.size) ?_
            intro g9 c9 w9 r9 gr9 og9
            refine hKK.out _ _ (hH.grown gr9 hH.size (fun k hk => by cases hk; omega)) (fun hH => ?_)
            clear hKK KK
            try simp only [Act.put, List.setIfInBounds_toArray, List.set_cons_zero, List.set_cons_succ]
            have hg9 : x0.heap.size ≤ g9 := by
              have := sz1 x0 (Obj.cells #[] 29)
              rcases og9 with h | h <;> omega
            refine efH (i := 9) rfl (by kernel_rfl) (by rfl) (fun KK hKK => ?_)
            refine wp_append_parts _ _ rfl B g9 (0 + j) c9 _ rfl r9 gl (((j + 1) * 2)) (n - (j + 1)) (cl - (j + 1)) ((idx.drop (j + 1)).map (pr D)) rfl (hp2.below hH) (by rw [List.length_map, List.length_drop, HL.out.1]) (by omega) (Nat.le_trans hBx hH.size) ?_
            intro g7 c7 w7 r7 gr7 og7
            refine hKK.out _ _ (hH.grown gr7 hH.size (fun k hk => by cases hk; omega)) (fun hH => ?_)
            clear hKK KK
            try simp only [Act.put, List.setIfInBounds_toArray, List.set_cons_zero, List.set_cons_succ]
            refine tkH (v := ?_) (i := 10) rfl (by kernel_rfl) (by kernel_rfl) (by kernel_rfl) (fun _ _ _ h => h) hH (Or.inl ⟨by rfl, ?_⟩) ?_
            rotate_left
            · intro wq hq
              go_simp
              try rfl
            try simp only [Act.put, List.setIfInBounds_toArray, List.set_cons_zero, List.set_cons_succ]
            refine wpAnyH_done (by kernel_rfl) ?_ _
            try simp only [Act.put, List.getElem_toArray, List.getElem_cons_zero, List.getElem_cons_succ, List.setIfInBounds_toArray, List.set_cons_zero, List.set_cons_succ]
            have hs8 := hH.size
            have hg7 : x0.heap.size ≤ g7 := by
              have := gr9.size
              have := sz1 x0 (Obj.cells #[] 29)
              rcases og7 with h | h <;> omega
            have hg5 : g5 < x0.heap.size := by
              rcases hg8 with ⟨h, _⟩ | ⟨g, h, _, h3⟩
              · cases h
              · injection h with h; injection h with h _ _; omega
            have hf7 : g7 < w7.heap.size := by
              rcases r7.form with ⟨h, _⟩ | ⟨g, h, _, h3⟩
              · cases h
              · injection h with h; injection h with h _ _; omega
            go_wp2_with fail
            go_roundw
            case rel =>
              refine ⟨k + 1, 0 + j + (n - (j + 1)), g7, c7, c5, some ⟨g5, 0, none⟩, ch ++ [a], idx.take j ++ idx.drop (j + 1), by omega, by omega, by go_num, ?_, rfl, ?_, ?_, HJ.out.2.2, ?_, hf7, by omega, ?_, ?_, ?_, ?_⟩
              · first | rfl | (congr 1; omega)
              · have := HL.out.1; simp; omega
              · have := HL.out.2.1; simp; omega
              · have := r7.cap; omega
              · intro e; injection e with e; injection e with e _ _; omega
              · have := r7.pl; rw [List.nil_append, ← List.map_append] at this; exact this
              · have := r8.below hH; rw [← HP.out] at this; rw [List.map_append]; exact this
              · exact bW8.trans (hH.mono (by have := HB.out; have := bW8.size; omega))
            case measure => first | (simp [intOf]; done) | (simp [intOf]; omega)
        · obtain rfl : k = 3 := by omega
          obtain ⟨a, b, c, rfl, ha, hb, hc, h12, h13, h23⟩ := hLot.ends hlc
          have j1 := join_pr (D := D) (by have := HD.out.2.2.2; omega) ha hb hc h12 h13 h23 l
          have j2 := join_two (D := D) (by have := HD.out.2.2.2; omega) ha hb h12
          obtain ⟨gA, rfl, hgA, hgA'⟩ : ∃ gA, A3 = some ⟨gA, 0, none⟩ ∧ B ≤ gA ∧ gA < wr.heap.size := by
            rcases hR.form with ⟨_, h0⟩ | h0
            · omega
            · exact h0
          have hcap := hR.cap
          have hlA : Ps wr A l := fun h0 => by
            obtain ⟨b, o, e, p⟩ := HD.out.2.2.1.1 h0
            have hb' : b < W.heap.size := World.block_lt_of_cell? W _ (p 0 _ (List.getElem?_eq_getElem h0)).1
            exact ⟨b, o, e, (p.belowB bA hb').belowB bW (by omega)⟩
          have hcj := fun w A' m' c' l' hm (hmx : m' ≤ 100000) h' => cjoin_any A' m' c' l' (D.size : Int) w hm hmx h' (by omega) (by have := HD.out.2.2.2; omega)
          have tD := beq_yes D
          have h2c : (2 : Int) ≤ (c3 : Int) := by omega
          go_wp2_with (first | (at_builtin; refine app_behind rfl _ _ rfl B gA 3 c3 _ rfl hR A m cap l rfl hlA HD.out.2.2.1.2.1 HD.out.2.2.1.2.2 (by omega) (by have := HB.out; have := bW.size; omega) ?_; intro g6 c6 w9 r9 p9 b9; have hc1 := hcj w9 (some ⟨g6, 0, none⟩) (3 + m) c6 _ r9.1 (by omega) r9.ps; rw [j1] at hc1; simp only at hc1) | (go_at_call 15; refine hc1.mono ?_; clear hc1; rintro e w10 ⟨rfl, hb10⟩; have p10 := (p9.below hb10).take 2; have hc2 := hcj w10 (some ⟨gA, 0, none⟩) 2 c3 [pr D a, pr D b] rfl (by omega) (fun _ => ⟨gA, 0, rfl, p10⟩); rw [j2] at hc2; simp only at hc2) | (go_at_call 15; refine hc2.mono ?_; clear hc2; rintro e w11 ⟨rfl, hb11⟩) | (go_at_call 9; refine (hf _).mono ?_; rintro e w12 ⟨rfl, hb12⟩))
          go_ret
          have z0 := HB.out
          have z1 := bW.size
          have z2 := b9.size
          have z3 := hb10.size
          have z4 := hb11.size
          have z5 := bA.size
          exact ⟨rfl, bA.trans ((bW.trans (b9.trans ((hb10.mono (by omega)).trans ((hb11.mono (by omega)).trans (hb12.mono (by omega)))))).mono (by omega))⟩

set_option maxRecDepth 100000 in
theorem lifted (os : Os) (started : os.Started) (H : Type) (enc : TypeId × Value → H) :
    ReturnsInHanded {} Try.checked os 5 .any (Rows.parityThreeSpec.pre6 enc Try.prog Try.f5 Rows.parityThreeRow.domain false) (Rows.parityThreeSpec.post enc Try.prog Try.f5 false true false false) := by
  refine returnsInHanded_of_change (C := Try.checked) own started (by kernel_rfl) Try.func5
    (ChangeSpec.witness6 (enc := enc) (C := Try.checked) false ⟨#[], #[.string ByteArray.empty, .agg (Array.replicate 3 (.int .u8 0)), .slice none 0 0], []⟩ 8 (by kernel_rfl) (by kernel_rfl) (by kernel_rfl) (by kernel_rfl)) ?_
  intro W base args ds gs before hval0 hW hcnd _
  have hval : ∀ (j : Nat) t v, Try.f5.params[j]? = some t → args[j]? = some v → Value.okWide Try.prog W .any base t v := hval0
  have hW' := hW
  obtain ⟨p, q, hA0, hV, rfl, hfz, hnd⟩ := hW
  have hA : DataW.TrodAll enc Try.prog W 0 (fun _ => true) true Try.f5.params.toList args.toList ds p := hA0
  rw [Try.params5] at hA hval
  obtain ⟨v0, vs0, d0, ds0, p0, q0, hargs, rfl, rfl, h0, r0⟩ := trodAll_cons hA
  obtain ⟨v1, vs1, d1, ds1, p1, q1, rfl, rfl, rfl, h1, r1⟩ := trodAll_cons r0
  obtain ⟨v2, vs2, d2, ds2, p2, q2, rfl, rfl, rfl, h2, r2⟩ := trodAll_cons r1
  obtain ⟨rfl, rfl, rfl⟩ := trodAll_nil r2
  obtain rfl : args = #[v0, v1, v2] := by cases args; simp_all
  obtain ⟨rfl, rfl⟩ := trodVars_none hV
  obtain ⟨a0, rfl, rfl, rfl, w0⟩ := open_string Try.underlying9 (hval 0 9 v0 rfl rfl) h0
  obtain ⟨K1, rfl, l1, b1⟩ := okPick (hval 1 34 v1 rfl rfl)
  have k1 := h1
  have lt1 : ∀ x ∈ p1, x.block < W.heap.size := by obtain ⟨m, hm⟩ := k1; exact DataW.trod_lt m _ _ _ hm
  have k2 := h2
  have lt2 : ∀ x ∈ p2, x.block < W.heap.size := by obtain ⟨m, hm⟩ := k2; exact DataW.trod_lt m _ _ _ hm
  obtain ⟨A2, c2, n2, xs2, rfl, pt2, lm2⟩ := okParts3 (hval 2 24 v2 rfl rfl) h2
  clear hA0 hval0
  refine (walk a0 K1 A2 n2 c2 xs2 W w0 b1 l1 pt2 lm2).mono fun e W' ⟨he, bel⟩ => ?_
  subst he
  exact ⟨_, rfl, _, _, _, [], _, [], hW', trodAll_mk1 (shut_bool Try.underlying4 _), (trodAll_cons_mk (shut_string Try.underlying9 w0) (trodAll_cons_mk (Below.trod laidOut (by kernel_rfl) (of_decide_eq_true (by kernel_rfl)) k1 bel lt1) (trodAll_cons_mk (Below.trod laidOut (by kernel_rfl) (of_decide_eq_true (by kernel_rfl)) k2 bel lt2) trodAll_mk0))), rfl, bel.frame _, fun h => by cases h⟩

theorem over : Rows.parityThreeRow.holds Try.pinned (OpenSpec.ofChange Rows.parityThreeSpec) :=
  OpenClaim.holds_of_wide 5 Try.f5 rfl rfl rfl rfl rfl rfl rfl ⟨rfl, rfl, rfl, rfl, rfl⟩ rfl rfl rfl rfl rfl (by kernel_rfl) Try.func5 (by kernel_rfl)
    (of_decide_eq_true (by kernel_rfl)) (by unfold Func.isWrapper; first | (rw [if_pos (by decide +kernel)]; kernel_rfl) | (rw [if_neg (by decide +kernel)]; exact ⟨rfl, rfl⟩))
    (fun os started H enc _ => lifted os started H enc)

/-- the statement -/
theorem proved : Rows.ParityThreeSaid := over
end Go.Proofs.Ytgfnpemonpebpaa.parityThree
