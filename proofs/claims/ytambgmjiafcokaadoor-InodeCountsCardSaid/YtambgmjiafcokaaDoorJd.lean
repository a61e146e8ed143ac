/-
  THE WALK of the law of what is taken, one behind the other.
-/
import Derived.Test.YtambgmjiafcokaaDoorJc
namespace Go.Proofs.YtambgmjiafcokaaDoor
set_option linter.unusedVariables false
set_option maxRecDepth 100000
set_option linter.unusedSimpArgs false
open Go.RowKit
namespace Dw
open _root_.Go.Proofs.YtambgmjiafcokaaDoor.Nm
theorem _root_.Go.Proofs.YtambgmjiafcokaaDoor.Nm.Tz.drewN {a : World} {A : Option Addr} {n cap : Nat} {l : List ByteArray} (h : Tz a A n cap l) (k : Nat) : Tz (a.drewN k) A n cap l := h.dr ⟨k, rfl⟩
theorem NwP.lit {l : List ByteArray} {kind owner : Int} {c : Nat} {n k : Int} {L : List ByteArray} (h : NwP l kind owner c n k L) (hk : k = 0) : Lit L c := by
  rcases h with ⟨hn, rfl, rfl, rfl, rfl⟩ | ⟨b, m, hv, hx, rfl, rfl, rfl, rfl⟩ | ⟨b, m, hv, h1, h2, rfl, rfl, rfl, rfl⟩ | ⟨b, m, j, hv, h1, h2, rfl, rfl, rfl, rfl⟩
  · omega
  · omega
  · omega
  · exact (put_vol hv h2.1 h2.2.1 _).blk.lit
set_option maxHeartbeats 8000000 in
theorem news_any (A : Option Addr) (m c : Nat) (l : List ByteArray) (A1 : Option Addr) (m1 c1 : Nat) (K1 : List Int) (A2 : Option Addr) (m2 c2 : Nat) (K2 : List Int) (w : World) (hl : Tz w A m c l) (hL : Lit l m) (hk1 : Hz w A1 m1 K1) (hk2 : Hz w A2 m2 K2) :
    Calls Tryd.prog 5 #[.slice A m c, .slice A1 m1 c1, .slice A2 m2 c2] w fun e w' => e = .returned (.bool true) ∧ Below w.heap.size w w' := by
  go_enter Tryd.func5, Tryd.ntmps5
  go_wp2_with fail
  refine (alive_any _).mono ?_
  rintro e w1 ⟨rfl, hb1⟩
  have hz1 := hl.below hb1
  go_wp2_with fail
  refine (great_any A m c l _ hz1 hL).mono ?_
  rintro e w2 ⟨hg, rfl⟩
  rcases hg with rfl | rfl
  · go_wp2_with fail
    go_ret
    exact ⟨rfl, hb1⟩
  · by_cases h70 : 70 < m1
    · have g1 : (70 : Int) < (m1 : Int) := by omega
      go_wp2_with fail
      go_ret
      exact ⟨rfl, hb1⟩
    · have g1 : decide ((70 : Int) < (m1 : Int)) = false := decide_eq_false (by omega)
      by_cases hmm : m2 = m1
      · subst hmm
        have g2 : ((m2 : Int) != (m2 : Int)) = false := by simp
        go_wp2_with fail
        go_loopw [0, 7] (fun s i wr => ∃ (k : Nat) (A : Option Addr) (m c : Nat) (l : List ByteArray), k ≤ m2 ∧ i = .int .i64 k ∧ s = .slice A m c ∧ Tz wr A m c l ∧ Lit l m ∧ Below w.heap.size w wr) (fun _ i _ => m2 - (intOf i).toNat)
        case atStart => exact ⟨0, A, m, c, l, Nat.zero_le _, rfl, rfl, hz1, hL, hb1⟩
        case round =>
          clear hb1 hz1 hL hl
          obtain ⟨k, A, m, c, l, hk, rfl, rfl, hz, hL, hb⟩ := hrel
          by_cases hlt : k < m2
          · have k0 : (k : Int) < (m2 : Int) := by omega
            have e3 : IntKind.i64.wrap ((k : Int) + 1) = (k : Int) + 1 := IntWalk.i64_in _ (by omega)
            obtain ⟨a1, f1, rfl, hc1⟩ := (hk1.below hb).at' (by omega)
            obtain ⟨a2, f2, rfl, hc2⟩ := (hk2.below hb).at' (by omega)
            have cK := hc1 k hlt
            have cO := hc2 k hlt
            generalize K1.getD k 0 = kk at *
            generalize K2.getD k 0 = oo at *
            clear hc1 hc2
            go_wp2_with fail
            refine wp_region_held_drew (S := fun V => V.cell? ⟨a1, f1 + k, none⟩ = some (.int .i64 kk) ∧ V.cell? ⟨a2, f2 + k, none⟩ = some (.int .i64 oo)) (by kernel_rfl) ⟨cK, cO⟩ (fun hHeld => ?_)
            refine wpAnyH_take (i := 0) (oi := { dst := some 38, op := Op.move (Operand.tmp 0), type := _, pos := _, after := _, guard := _ }) (v := ?_) rfl (by kernel_rfl) (by kernel_rfl) (by kernel_rfl) (fun _ _ _ h => h) (Or.inl ⟨by rfl, ?_⟩) hHeld ?_
            rotate_left
            · intro wq hSw
              go_simp
              rfl
            try simp only [Act.put, List.setIfInBounds_toArray, List.set_cons_zero, List.set_cons_succ]
            refine wpAnyH_take (i := 1) (oi := { dst := some 39, op := Op.move (Operand.tmp 1), type := _, pos := _, after := _, guard := _ }) (v := ?_) rfl (by kernel_rfl) (by kernel_rfl) (by kernel_rfl) (fun _ _ _ h => h) (Or.inl ⟨by rfl, ?_⟩) hHeld ?_
            rotate_left
            · intro wq hSw
              go_simp
              rfl
            try simp only [Act.put, List.setIfInBounds_toArray, List.set_cons_zero, List.set_cons_succ]
            refine wpAnyH_take (i := 2) (oi := { dst := some 40, op := Op.move (Operand.tmp 7), type := _, pos := _, after := _, guard := _ }) (v := ?_) rfl (by kernel_rfl) (by kernel_rfl) (by kernel_rfl) (fun _ _ _ h => h) (Or.inl ⟨by rfl, ?_⟩) hHeld ?_
            rotate_left
            · intro wq hSw
              go_simp
              rfl
            try simp only [Act.put, List.setIfInBounds_toArray, List.set_cons_zero, List.set_cons_succ]
            refine wpAnyH_take (i := 3) (oi := { dst := some 41, op := Op.indexAddr 31 (Operand.tmp 39) (Operand.tmp 40), type := _, pos := _, after := _, guard := _ }) (v := ?_) rfl (by kernel_rfl) (by kernel_rfl) (by kernel_rfl) (fun _ _ _ h => h) (Or.inl ⟨by rfl, ?_⟩) hHeld ?_
            rotate_left
            · intro wq hSw
              go_simp
              rfl
            try simp only [Act.put, List.setIfInBounds_toArray, List.set_cons_zero, List.set_cons_succ]
            refine wpAnyH_take (i := 4) (oi := { dst := some 42, op := Op.load 3 (Operand.tmp 41), type := _, pos := _, after := _, guard := _ }) (v := ?_) rfl (by kernel_rfl) (by kernel_rfl) (by kernel_rfl) (fun _ _ _ h => h) (Or.inl ⟨by rfl, ?_⟩) hHeld ?_
            rotate_left
            · intro wq hSw
              obtain ⟨s1, s2⟩ := hSw
              go_simp
              rfl
            try simp only [Act.put, List.setIfInBounds_toArray, List.set_cons_zero, List.set_cons_succ]
            refine wpAnyH_take (i := 5) (oi := { dst := some 43, op := Op.move (Operand.tmp 2), type := _, pos := _, after := _, guard := _ }) (v := ?_) rfl (by kernel_rfl) (by kernel_rfl) (by kernel_rfl) (fun _ _ _ h => h) (Or.inl ⟨by rfl, ?_⟩) hHeld ?_
            rotate_left
            · intro wq hSw
              go_simp
              rfl
            try simp only [Act.put, List.setIfInBounds_toArray, List.set_cons_zero, List.set_cons_succ]
            refine wpAnyH_take (i := 6) (oi := { dst := some 44, op := Op.move (Operand.tmp 7), type := _, pos := _, after := _, guard := _ }) (v := ?_) rfl (by kernel_rfl) (by kernel_rfl) (by kernel_rfl) (fun _ _ _ h => h) (Or.inl ⟨by rfl, ?_⟩) hHeld ?_
            rotate_left
            · intro wq hSw
              go_simp
              rfl
            try simp only [Act.put, List.setIfInBounds_toArray, List.set_cons_zero, List.set_cons_succ]
            refine wpAnyH_take (i := 7) (oi := { dst := some 45, op := Op.indexAddr 31 (Operand.tmp 43) (Operand.tmp 44), type := _, pos := _, after := _, guard := _ }) (v := ?_) rfl (by kernel_rfl) (by kernel_rfl) (by kernel_rfl) (fun _ _ _ h => h) (Or.inl ⟨by rfl, ?_⟩) hHeld ?_
            rotate_left
            · intro wq hSw
              go_simp
              rfl
            try simp only [Act.put, List.setIfInBounds_toArray, List.set_cons_zero, List.set_cons_succ]
            refine wpAnyH_take (i := 8) (oi := { dst := some 46, op := Op.load 3 (Operand.tmp 45), type := _, pos := _, after := _, guard := _ }) (v := ?_) rfl (by kernel_rfl) (by kernel_rfl) (by kernel_rfl) (fun _ _ _ h => h) (Or.inl ⟨by rfl, ?_⟩) hHeld ?_
            rotate_left
            · intro wq hSw
              obtain ⟨s1, s2⟩ := hSw
              go_simp
              rfl
            try simp only [Act.put, List.setIfInBounds_toArray, List.set_cons_zero, List.set_cons_succ]
            refine wpAnyH_ready (rs := [9]) (by kernel_rfl) (by simp) ?_
            refine AllReadyH.cons (o := { dst := some 47, op := Op.call { callee := Callee.value (Operand.func 19), args := #[Operand.tmp 38, Operand.tmp 42, Operand.tmp 46], argTypes := #[22, 3, 3] }, type := _, pos := _, after := _, guard := _ }) rfl (fun KK hKK => ?_) AllReadyH.nil
            have hKS := Lib.hid hKK
            clear hKK
            go_simp
            refine (new_any A m c l kk oo _ (hz.drewN 1) hL).mono ?_
            rintro e u1 ⟨hp, hx1⟩
            obtain ⟨A3, n3, c3, i3, q3, L3, rfl, ht1, p1⟩ := new_p hp
            go_wp2_with fail
            have hb1 : Below w.heap.size w u1 := hb.drew.trans (hx1.mono hb.size)
            have hz1 : Tz u1 A m c l := (hz.drewN 1).below hx1
            clear hp
            refine hKS.out.out _ _ ⟨cellB hHeld.1 hx1, cellB hHeld.2 hx1⟩ (fun hHeld => ?_)
            clear hKS KK hx1 hb hz cK cO
            try simp only [Act.put, List.setIfInBounds_toArray, List.set_cons_zero, List.set_cons_succ]
            refine wpAnyH_take (i := 10) (oi := { dst := some 37, op := Op.move (Operand.tmp 47), type := _, pos := _, after := _, guard := _ }) (v := ?_) rfl (by kernel_rfl) (by kernel_rfl) (by kernel_rfl) (fun _ _ _ h => h) (Or.inl ⟨by rfl, ?_⟩) hHeld ?_
            rotate_left
            · intro wq hSw
              go_simp
              rfl
            try simp only [Act.put, List.setIfInBounds_toArray, List.set_cons_zero, List.set_cons_succ]
            refine wpAnyH_take (i := 11) (oi := { dst := some 48, op := Op.extract (Operand.tmp 37) 0, type := _, pos := _, after := _, guard := _ }) (v := ?_) rfl (by kernel_rfl) (by kernel_rfl) (by kernel_rfl) (fun _ _ _ h => h) (Or.inl ⟨by rfl, ?_⟩) hHeld ?_
            rotate_left
            · intro wq hSw
              go_simp
              rfl
            try simp only [Act.put, List.setIfInBounds_toArray, List.set_cons_zero, List.set_cons_succ]
            refine wpAnyH_take (i := 12) (oi := { dst := some 49, op := Op.extract (Operand.tmp 37) 1, type := _, pos := _, after := _, guard := _ }) (v := ?_) rfl (by kernel_rfl) (by kernel_rfl) (by kernel_rfl) (fun _ _ _ h => h) (Or.inl ⟨by rfl, ?_⟩) hHeld ?_
            rotate_left
            · intro wq hSw
              go_simp
              rfl
            try simp only [Act.put, List.setIfInBounds_toArray, List.set_cons_zero, List.set_cons_succ]
            refine wpAnyH_take (i := 13) (oi := { dst := some 50, op := Op.extract (Operand.tmp 37) 2, type := _, pos := _, after := _, guard := _ }) (v := ?_) rfl (by kernel_rfl) (by kernel_rfl) (by kernel_rfl) (fun _ _ _ h => h) (Or.inl ⟨by rfl, ?_⟩) hHeld ?_
            rotate_left
            · intro wq hSw
              go_simp
              rfl
            try simp only [Act.put, List.setIfInBounds_toArray, List.set_cons_zero, List.set_cons_succ]
            refine wpAnyH_take (i := 14) (oi := { dst := some 8, op := Op.assign (Operand.tmp 48), type := _, pos := _, after := _, guard := _ }) (v := ?_) rfl (by kernel_rfl) (by kernel_rfl) (by kernel_rfl) (fun _ _ _ h => h) (Or.inl ⟨by rfl, ?_⟩) hHeld ?_
            rotate_left
            · intro wq hSw
              go_simp
              rfl
            try simp only [Act.put, List.setIfInBounds_toArray, List.set_cons_zero, List.set_cons_succ]
            refine wpAnyH_take (i := 15) (oi := { dst := some 9, op := Op.assign (Operand.tmp 49), type := _, pos := _, after := _, guard := _ }) (v := ?_) rfl (by kernel_rfl) (by kernel_rfl) (by kernel_rfl) (fun _ _ _ h => h) (Or.inl ⟨by rfl, ?_⟩) hHeld ?_
            rotate_left
            · intro wq hSw
              go_simp
              rfl
            try simp only [Act.put, List.setIfInBounds_toArray, List.set_cons_zero, List.set_cons_succ]
            refine wpAnyH_take (i := 16) (oi := { dst := some 10, op := Op.assign (Operand.tmp 50), type := _, pos := _, after := _, guard := _ }) (v := ?_) rfl (by kernel_rfl) (by kernel_rfl) (by kernel_rfl) (fun _ _ _ h => h) (Or.inl ⟨by rfl, ?_⟩) hHeld ?_
            rotate_left
            · intro wq hSw
              go_simp
              rfl
            try simp only [Act.put, List.setIfInBounds_toArray, List.set_cons_zero, List.set_cons_succ]
            refine wpAnyH_done (by kernel_rfl) ?_ _
            go_wp2_with fail
            have cK := hHeld.1
            have cO := hHeld.2
            clear hHeld
            refine wp_region_held_drew (S := fun V => V.cell? ⟨a1, f1 + k, none⟩ = some (.int .i64 kk) ∧ V.cell? ⟨a2, f2 + k, none⟩ = some (.int .i64 oo)) (by kernel_rfl) ⟨cK, cO⟩ (fun hHeld => ?_)
            refine wpAnyH_take (i := 0) (oi := { dst := some 52, op := Op.move (Operand.tmp 0), type := _, pos := _, after := _, guard := _ }) (v := ?_) rfl (by kernel_rfl) (by kernel_rfl) (by kernel_rfl) (fun _ _ _ h => h) (Or.inl ⟨by rfl, ?_⟩) hHeld ?_
            rotate_left
            · intro wq hSw
              go_simp
              rfl
            try simp only [Act.put, List.setIfInBounds_toArray, List.set_cons_zero, List.set_cons_succ]
            refine wpAnyH_take (i := 1) (oi := { dst := some 53, op := Op.move (Operand.tmp 1), type := _, pos := _, after := _, guard := _ }) (v := ?_) rfl (by kernel_rfl) (by kernel_rfl) (by kernel_rfl) (fun _ _ _ h => h) (Or.inl ⟨by rfl, ?_⟩) hHeld ?_
            rotate_left
            · intro wq hSw
              go_simp
              rfl
            try simp only [Act.put, List.setIfInBounds_toArray, List.set_cons_zero, List.set_cons_succ]
            refine wpAnyH_take (i := 2) (oi := { dst := some 54, op := Op.move (Operand.tmp 7), type := _, pos := _, after := _, guard := _ }) (v := ?_) rfl (by kernel_rfl) (by kernel_rfl) (by kernel_rfl) (fun _ _ _ h => h) (Or.inl ⟨by rfl, ?_⟩) hHeld ?_
            rotate_left
            · intro wq hSw
              go_simp
              rfl
            try simp only [Act.put, List.setIfInBounds_toArray, List.set_cons_zero, List.set_cons_succ]
            refine wpAnyH_take (i := 3) (oi := { dst := some 55, op := Op.indexAddr 31 (Operand.tmp 53) (Operand.tmp 54), type := _, pos := _, after := _, guard := _ }) (v := ?_) rfl (by kernel_rfl) (by kernel_rfl) (by kernel_rfl) (fun _ _ _ h => h) (Or.inl ⟨by rfl, ?_⟩) hHeld ?_
            rotate_left
            · intro wq hSw
              go_simp
              rfl
            try simp only [Act.put, List.setIfInBounds_toArray, List.set_cons_zero, List.set_cons_succ]
            refine wpAnyH_take (i := 4) (oi := { dst := some 56, op := Op.load 3 (Operand.tmp 55), type := _, pos := _, after := _, guard := _ }) (v := ?_) rfl (by kernel_rfl) (by kernel_rfl) (by kernel_rfl) (fun _ _ _ h => h) (Or.inl ⟨by rfl, ?_⟩) hHeld ?_
            rotate_left
            · intro wq hSw
              obtain ⟨s1, s2⟩ := hSw
              go_simp
              rfl
            try simp only [Act.put, List.setIfInBounds_toArray, List.set_cons_zero, List.set_cons_succ]
            refine wpAnyH_take (i := 5) (oi := { dst := some 57, op := Op.move (Operand.tmp 2), type := _, pos := _, after := _, guard := _ }) (v := ?_) rfl (by kernel_rfl) (by kernel_rfl) (by kernel_rfl) (fun _ _ _ h => h) (Or.inl ⟨by rfl, ?_⟩) hHeld ?_
            rotate_left
            · intro wq hSw
              go_simp
              rfl
            try simp only [Act.put, List.setIfInBounds_toArray, List.set_cons_zero, List.set_cons_succ]
            refine wpAnyH_take (i := 6) (oi := { dst := some 58, op := Op.move (Operand.tmp 7), type := _, pos := _, after := _, guard := _ }) (v := ?_) rfl (by kernel_rfl) (by kernel_rfl) (by kernel_rfl) (fun _ _ _ h => h) (Or.inl ⟨by rfl, ?_⟩) hHeld ?_
            rotate_left
            · intro wq hSw
              go_simp
              rfl
            try simp only [Act.put, List.setIfInBounds_toArray, List.set_cons_zero, List.set_cons_succ]
            refine wpAnyH_take (i := 7) (oi := { dst := some 59, op := Op.indexAddr 31 (Operand.tmp 57) (Operand.tmp 58), type := _, pos := _, after := _, guard := _ }) (v := ?_) rfl (by kernel_rfl) (by kernel_rfl) (by kernel_rfl) (fun _ _ _ h => h) (Or.inl ⟨by rfl, ?_⟩) hHeld ?_
            rotate_left
            · intro wq hSw
              go_simp
              rfl
            try simp only [Act.put, List.setIfInBounds_toArray, List.set_cons_zero, List.set_cons_succ]
            refine wpAnyH_take (i := 8) (oi := { dst := some 60, op := Op.load 3 (Operand.tmp 59), type := _, pos := _, after := _, guard := _ }) (v := ?_) rfl (by kernel_rfl) (by kernel_rfl) (by kernel_rfl) (fun _ _ _ h => h) (Or.inl ⟨by rfl, ?_⟩) hHeld ?_
            rotate_left
            · intro wq hSw
              obtain ⟨s1, s2⟩ := hSw
              go_simp
              rfl
            try simp only [Act.put, List.setIfInBounds_toArray, List.set_cons_zero, List.set_cons_succ]
            refine wpAnyH_ready (rs := [9]) (by kernel_rfl) (by simp) ?_
            refine AllReadyH.cons (o := { dst := some 61, op := Op.call { callee := Callee.value (Operand.func 20), args := #[Operand.tmp 52, Operand.tmp 56, Operand.tmp 60], argTypes := #[22, 3, 3] }, type := _, pos := _, after := _, guard := _ }) rfl (fun KK hKK => ?_) AllReadyH.nil
            have hKS := Lib.hid hKK
            clear hKK
            go_simp
            refine (rnew_any A m c l kk oo _ (hz1.drewN 1) hL).mono ?_
            rintro e u2 ⟨hp, hx2⟩
            obtain ⟨A4, n4, c4, i4, q4, L4, rfl, ht2, p2⟩ := new_p hp
            go_wp2_with fail
            have hb2 : Below w.heap.size w u2 := hb1.drew.trans (hx2.mono hb1.size)
            have hz2 : Tz u2 A m c l := (hz1.drewN 1).below hx2
            have ht3 : Tz u2 A3 n3 c3 L3 := (ht1.drewN 1).below hx2
            clear hp
            refine hKS.out.out _ _ ⟨cellB hHeld.1 hx2, cellB hHeld.2 hx2⟩ (fun hHeld => ?_)
            clear hKS KK hx2 hb1 hz1 ht1 cK cO
            try simp only [Act.put, List.setIfInBounds_toArray, List.set_cons_zero, List.set_cons_succ]
            refine wpAnyH_take (i := 10) (oi := { dst := some 51, op := Op.move (Operand.tmp 61), type := _, pos := _, after := _, guard := _ }) (v := ?_) rfl (by kernel_rfl) (by kernel_rfl) (by kernel_rfl) (fun _ _ _ h => h) (Or.inl ⟨by rfl, ?_⟩) hHeld ?_
            rotate_left
            · intro wq hSw
              go_simp
              rfl
            try simp only [Act.put, List.setIfInBounds_toArray, List.set_cons_zero, List.set_cons_succ]
            refine wpAnyH_take (i := 11) (oi := { dst := some 62, op := Op.extract (Operand.tmp 51) 0, type := _, pos := _, after := _, guard := _ }) (v := ?_) rfl (by kernel_rfl) (by kernel_rfl) (by kernel_rfl) (fun _ _ _ h => h) (Or.inl ⟨by rfl, ?_⟩) hHeld ?_
            rotate_left
            · intro wq hSw
              go_simp
              rfl
            try simp only [Act.put, List.setIfInBounds_toArray, List.set_cons_zero, List.set_cons_succ]
            refine wpAnyH_take (i := 12) (oi := { dst := some 63, op := Op.extract (Operand.tmp 51) 1, type := _, pos := _, after := _, guard := _ }) (v := ?_) rfl (by kernel_rfl) (by kernel_rfl) (by kernel_rfl) (fun _ _ _ h => h) (Or.inl ⟨by rfl, ?_⟩) hHeld ?_
            rotate_left
            · intro wq hSw
              go_simp
              rfl
            try simp only [Act.put, List.setIfInBounds_toArray, List.set_cons_zero, List.set_cons_succ]
            refine wpAnyH_take (i := 13) (oi := { dst := some 64, op := Op.extract (Operand.tmp 51) 2, type := _, pos := _, after := _, guard := _ }) (v := ?_) rfl (by kernel_rfl) (by kernel_rfl) (by kernel_rfl) (fun _ _ _ h => h) (Or.inl ⟨by rfl, ?_⟩) hHeld ?_
            rotate_left
            · intro wq hSw
              go_simp
              rfl
            try simp only [Act.put, List.setIfInBounds_toArray, List.set_cons_zero, List.set_cons_succ]
            refine wpAnyH_take (i := 14) (oi := { dst := some 11, op := Op.assign (Operand.tmp 62), type := _, pos := _, after := _, guard := _ }) (v := ?_) rfl (by kernel_rfl) (by kernel_rfl) (by kernel_rfl) (fun _ _ _ h => h) (Or.inl ⟨by rfl, ?_⟩) hHeld ?_
            rotate_left
            · intro wq hSw
              go_simp
              rfl
            try simp only [Act.put, List.setIfInBounds_toArray, List.set_cons_zero, List.set_cons_succ]
            refine wpAnyH_take (i := 15) (oi := { dst := some 12, op := Op.assign (Operand.tmp 63), type := _, pos := _, after := _, guard := _ }) (v := ?_) rfl (by kernel_rfl) (by kernel_rfl) (by kernel_rfl) (fun _ _ _ h => h) (Or.inl ⟨by rfl, ?_⟩) hHeld ?_
            rotate_left
            · intro wq hSw
              go_simp
              rfl
            try simp only [Act.put, List.setIfInBounds_toArray, List.set_cons_zero, List.set_cons_succ]
            refine wpAnyH_take (i := 16) (oi := { dst := some 13, op := Op.assign (Operand.tmp 64), type := _, pos := _, after := _, guard := _ }) (v := ?_) rfl (by kernel_rfl) (by kernel_rfl) (by kernel_rfl) (fun _ _ _ h => h) (Or.inl ⟨by rfl, ?_⟩) hHeld ?_
            rotate_left
            · intro wq hSw
              go_simp
              rfl
            try simp only [Act.put, List.setIfInBounds_toArray, List.set_cons_zero, List.set_cons_succ]
            refine wpAnyH_done (by kernel_rfl) ?_ _
            obtain ⟨rfl, rfl, rfl, rfl⟩ := p1.uniq p2
            have hq0 : (q4 != q4) = false := by simp
            have hi0 : (i4 != i4) = false := by simp
            have HLIT := Lib.hid (p1.lit)
            clear p1 p2
            go_wp2_with fail
            refine (same_any A3 A4 n4 c3 n4 c4 L4 L4 _ ht3.t ht2.t (by have := ht3.m; omega) (by have := ht3.m; omega)).mono ?_
            rintro e u3 ⟨rfl, hd⟩
            have hb3 := below_dr hb2 hd
            have hz3 := hz2.dr hd
            have ht4 := ht3.dr hd
            rw [decide_eq_true (rfl : L4 = L4)]
            clear hb2 hz2 ht3 ht2 hd hq0 hi0
            by_cases hq : q4 = 0
            · have HL4 := Lib.hid (HLIT.out hq)
              subst hq
              clear HLIT
              go_wp2_with fail
              go_roundw
              case rel => exact ⟨k + 1, A3, n4, c3, L4, by omega, by go_num, rfl, ht4, HL4.out, hb3⟩
              case measure => simp [intOf]; omega
            · have hq1 : (q4 == 0) = false := by simp [hq]
              clear HLIT
              go_wp2_with fail
              go_roundw
              case rel => exact ⟨k + 1, A, m, c, l, by omega, by go_num, rfl, hz3, hL, hb3⟩
              case measure => simp [intOf]; omega
          · obtain rfl : k = m2 := by omega
            go_wp2_with fail
            go_ret
            exact ⟨rfl, hb⟩
      · have g2 : ((m2 : Int) != (m1 : Int)) = true := by rw [bne_iff_ne]; omega
        go_wp2_with fail
        go_ret
        exact ⟨rfl, hb1⟩
end Dw
end Go.Proofs.YtambgmjiafcokaaDoor
