/-
  THE WALK of the document's answer where things are on a volume.
-/
import Derived.Test.YtambgmjiafcokaaDoorGj
namespace Go.Proofs.YtambgmjiafcokaaDoor
set_option linter.unusedVariables false
set_option maxRecDepth 100000
set_option linter.unusedSimpArgs false
open Go.RowKit
namespace Dw
open _root_.Go.Proofs.YtambgmjiafcokaaDoor.Nm
set_option maxHeartbeats 4000000 in
theorem rof_any (A : Option Addr) (m c : Nat) (l : List ByteArray) (w : World) (hl : Tz w A m c l) (hL : Lit l m) :
    Calls Tryd.prog 26 #[.slice A m c] w fun e w' => OfIs l e ∧ Below w.heap.size w w' := by
  have hlen : l.length = m := hl.t.1
  subst hlen
  have hb := grow w (Obj.cells gz 58)
  have r0 := Nm.Own.new w 58 gz
  have hmm := hl.m
  by_cases hm : l.length < 3
  · have HN := Lib.hid (show ∀ b n, ¬ Vol l b n from fun b n h => by have := h.lt; have := h.len; omega)
    have m0 : (l.length : Int) < 3 := by omega
    go_enter Tryd.func26, Tryd.ntmps26
    go_wp2_with (refine sto24 (cs := gz) rfl rfl rfl rfl r0 gz_one gz_one ?_)
    intro w7 r7 s7
    go_wp2_with fail
    exact res24 rfl rfl rfl r7 rfl rfl ⟨.inr ⟨HN.out, rfl⟩, s7.below hb (Nat.le_refl _)⟩
  have m0 : ¬ (l.length : Int) < 3 := by omega
  have hl1 := hl.below hb
  obtain ⟨bb, off, rfl, hcw⟩ := hl.t.2 (by omega)
  have hcq : ∀ wq, Below w.heap.size w wq → ∀ i, i < l.length → wq.cell? ⟨bb, off + i, none⟩ = some (.string (nth l i)) := fun wq hq => by
    obtain ⟨bb', off', e', hc'⟩ := (hl.below hq).t.2 (by omega)
    injection e' with e'
    injection e' with e1 e2
    subst e1 e2
    exact hc'
  have hc := hcq _ hb
  have HC := Lib.hid hcq
  clear hcq hcw
  go_enter Tryd.func26, Tryd.ntmps26
  go_wp2_with fail
  change Code.wp _ _ _ _ (w.alloc (Obj.cells gz 58))
  generalize w.alloc (Obj.cells gz 58) = W0 at *
  go_loop [15] (fun i => ∃ k : Nat, k ≤ l.length ∧ i = .int .i64 k ∧ Blk l k) (fun i => l.length - (intOf i).toNat)
  case atStart => exact ⟨0, Nat.zero_le _, rfl, fun k hk => absurd hk (Nat.not_lt_zero _)⟩
  case round =>
    obtain ⟨k, hk, rfl, hB⟩ := hrel
    have HB := Lib.hid hB
    clear hB
    by_cases hlt : k < l.length
    · have c1 := hc k hlt
      have b1 : (k : Int) < (l.length : Int) := by omega
      have hs := hL k hlt
      by_cases hx : (nth l k).size = 128
      · have HX := Lib.hid hx
        have hx' : ((nth l k).size : Int) = 128 := by omega
        clear hc
        go_wp2_with fail
        go_round
        case rel =>
          refine ⟨k + 1, by omega, by go_num, fun j hj => ?_⟩
          by_cases hjk : j = k
          · rw [hjk]; exact HX.out
          · exact HB.out j (by omega)
        case measure => simp [intOf]; omega
      · have HX := Lib.hid hx
        have hx' : (((nth l k).size : Int) != 128) = true := by rw [bne_iff_ne]; omega
        clear hc hx
        go_wp2_with (refine sto24 (cs := gz) rfl rfl rfl rfl r0 gz_one gz_one ?_)
        intro w7 r7 s7
        go_wp2_with fail
        exact res24 rfl rfl rfl r7 rfl rfl ⟨.inr ⟨fun b n h => HX.out (h.blk k (by have := h.len; omega)), rfl⟩, s7.below hb (Nat.le_refl _)⟩
    · obtain rfl : k = l.length := by omega
      have hB := HB.out
      have hs := hB 0 (by omega)
      have hs2 := hB 2 (by omega)
      have c0 : W0.cell? ⟨bb, off, none⟩ = some (.string (nth l 0)) := hc 0 (by omega)
      have hg6 : ∀ wr, Calls Tryd.prog 41 #[.string ((nth l 0).extract 6 8)] wr fun e w' => e = .returned (.int .u64 (n6 (nth l 0) : Nat)) ∧ wr = w' := fun wr => rget_any _ wr (by rw [ByteArray.size_extract]; omega)
      have hy := n6_lt (nth l 0)
      have hplan := fun wr => rplan_any (l.length : Nat) (n6 (nth l 0) : Nat) wr
      have hV : ∀ b n, Vol l b n → l.length = b ∧ n6 (nth l 0) = n ∧ Gm.fits b n ∧ nth l 0 = headT b n ∧ Gm.okMap (toL (nth l 2)) b n := fun b n h => ⟨h.len, h.n6, h.fits, h.hd, h.map⟩
      have hY : ∀ y, Gm.fits l.length y → nth l 0 = headT l.length y → Gm.okMap (toL (nth l 2)) l.length y → Vol l l.length y := fun y a b c => ⟨rfl, hB, a, b, c⟩
      have HV0 := Lib.hid hV
      have HY0 := Lib.hid hY
      clear hV hY hB HB hc hl1
      generalize n6 (nth l 0) = y at *
      have w2 : IntKind.i64.wrap (y : Int) = (y : Int) := IntWalk.i64_in _ (by omega)
      go_wp2_with fail
      refine (hg6 _).mono ?_
      rintro e w' ⟨rfl, rfl⟩
      go_wp2_with fail
      refine (hplan _).mono ?_
      rintro e w3 ⟨hp, hx⟩
      obtain ⟨cs, q, rfl, hpc⟩ := plan_cs hp
      have r3 := r0.below hx
      have hb3 := hb.trans (hx.mono hb.size)
      have og := Nm.Own.new w3 58 gz
      have hg := grow w3 (Obj.cells gz 58)
      have r4 := r3.below hg
      have hb4 := hb3.trans (hg.mono hb3.size)
      have hgB : w.heap.size < w3.heap.size := r3.lt
      clear hp hx r0 hb r3 hb3 hg hg6 hplan
      go_wp2_with (refine sto24 (cs := cs) rfl rfl rfl rfl og hpc.one gz_one ?_)
      intro w5 o5 s5
      have r5 := s5.own r4 (by omega)
      have hb5 := s5.below hb4 (by omega)
      clear s5 og r4 hb4
      generalize w3.heap.size = g at *
      rcases hpc with ⟨hf, rfl, rfl⟩ | ⟨hf, rfl, hk⟩
      · have hX : Bx w g l.length y w5 := ⟨o5, r5, hb5⟩
        have hx6 : l.length < 65536 := by have := hf.2.1; omega
        have n0 : 0 < l.length := by omega
        have n2 : 2 < l.length := by omega
        have n3 : (2 : Int) < (l.length : Int) := by omega
        have hhead := fun wr => head_any l.length y wr hx6 hy
        have hc0 : ∀ wq, Below w.heap.size w wq → wq.cell? ⟨bb, off, none⟩ = some (.string (nth l 0)) := fun wq hq => HC.out wq hq 0 (by omega)
        have hc2 : ∀ wq, Below w.heap.size w wq → wq.cell? ⟨bb, off + 2, none⟩ = some (.string (nth l 2)) := fun wq hq => HC.out wq hq 2 (by omega)
        clear o5 r5 hb5 c0
        by_cases hhd : nth l 0 = headT l.length y
        · have t2 := str_yes hhd
          have HV := Lib.hid (show ∀ b n, Vol l b n → Gm.okMap (toL (nth l 2)) l.length y from fun b n h => by
            obtain ⟨rfl, rfl, _, _, hk⟩ := HV0.out b n h
            exact hk)
          have HY := Lib.hid (HY0.out y hf hhd)
          have hbit := fun i wr hi => rbit_any (nth l 2) i wr hs2 hi
          have hDl : Gm.dat y < l.length := hf.2.2.2.2
          clear hhd hf
          generalize headT l.length y = HT at *
          unfold Gm.okMap at HV HY
          generalize toL (nth l 2) = M at *
          generalize hDe : Gm.dat y = D at *
          go_wp2_with fail
          refine wp_region_held_drew (S := fun w' => Bx w g l.length y w') (by kernel_rfl) hX.drew (fun hHeld => ?_)
          clear hX
          generalize w5.drew = V0 at *
          · skip
            refine wpAnyH_take (i := 0) (oi := { dst := some 36, op := Op.move (Operand.tmp 7), type := _, pos := _, after := _, guard := _ }) (v := ?_) rfl (by kernel_rfl) (by kernel_rfl) (by kernel_rfl) (fun _ _ _ h => h) (Or.inl ⟨by rfl, ?_⟩) hHeld ?_
            rotate_left
            · intro wq hSw
              go_simp
              rfl
            try simp only [Act.put, List.setIfInBounds_toArray, List.set_cons_zero, List.set_cons_succ]
            refine wpAnyH_take (i := 1) (oi := { dst := some 37, op := Op.binOp BinOp.neq 28 (Operand.tmp 36) (Operand.const (Value.int IntKind.i64 0)) 28, type := _, pos := _, after := _, guard := _ }) (v := ?_) rfl (by kernel_rfl) (by kernel_rfl) (by kernel_rfl) (fun _ _ _ h => h) (Or.inl ⟨by rfl, ?_⟩) hHeld ?_
            rotate_left
            · intro wq hSw
              go_simp
              rfl
            try simp only [Act.put, List.setIfInBounds_toArray, List.set_cons_zero, List.set_cons_succ]
            refine wpAnyH_take (i := 2) (oi := { dst := some 38, op := Op.move (Operand.tmp 37), type := _, pos := _, after := _, guard := _ }) (v := ?_) rfl (by kernel_rfl) (by kernel_rfl) (by kernel_rfl) (fun _ _ _ h => h) (Or.inl ⟨by rfl, ?_⟩) hHeld ?_
            rotate_left
            · intro wq hSw
              go_simp
              rfl
            try simp only [Act.put, List.setIfInBounds_toArray, List.set_cons_zero, List.set_cons_succ]
            refine wpAnyH_take (i := 3) (oi := { dst := some 39, op := Op.move (Operand.tmp 0), type := _, pos := _, after := _, guard := _ }) (v := ?_) rfl (by kernel_rfl) (by kernel_rfl) (by kernel_rfl) (fun _ _ _ h => h) (Or.inl ⟨by rfl, ?_⟩) hHeld ?_
            rotate_left
            · intro wq hSw
              go_simp
              rfl
            try simp only [Act.put, List.setIfInBounds_toArray, List.set_cons_zero, List.set_cons_succ]
            refine wpAnyH_take (i := 4) (oi := { dst := some 40, op := Op.indexAddr 22 (Operand.tmp 39) (Operand.const (Value.int IntKind.i64 0)), type := _, pos := _, after := _, guard := _ }) (v := ?_) rfl (by kernel_rfl) (by kernel_rfl) (by kernel_rfl) (fun _ _ _ h => h) (Or.inl ⟨by rfl, ?_⟩) hHeld ?_
            rotate_left
            · intro wq hSw
              go_simp
              rfl
            try simp only [Act.put, List.setIfInBounds_toArray, List.set_cons_zero, List.set_cons_succ]
            refine wpAnyH_take (i := 5) (oi := { dst := some 41, op := Op.load 9 (Operand.tmp 40), type := _, pos := _, after := _, guard := _ }) (v := ?_) rfl (by kernel_rfl) (by kernel_rfl) (by kernel_rfl) (fun _ _ _ h => h) (Or.inl ⟨by rfl, ?_⟩) hHeld ?_
            rotate_left
            · intro wq hSw
              have c0 := hc0 wq hSw.b
              go_simp
              rfl
            try simp only [Act.put, List.setIfInBounds_toArray, List.set_cons_zero, List.set_cons_succ]
            refine wpAnyH_ready (rs := [6]) (by kernel_rfl) (by simp) ?_
            refine AllReadyH.cons (o := { dst := some 42, op := Op.load 58 (Operand.tmp 6), type := _, pos := _, after := _, guard := _ }) rfl (fun KK hKK => ?_) AllReadyH.nil
            have hKS := Lib.hid hKK
            clear hKK
            refine ld24g (by kernel_rfl) rfl rfl hHeld.o (gc_one _ _) ?_
            refine hKS.out.out _ _ hHeld (fun hHeld => ?_)
            clear hKS KK
            try simp only [Act.put, List.setIfInBounds_toArray, List.set_cons_zero, List.set_cons_succ]
            refine wpAnyH_ready (rs := [7]) (by kernel_rfl) (by simp) ?_
            refine AllReadyH.cons (o := { dst := some 43, op := Op.call { callee := Callee.value (Operand.func 42), args := #[Operand.tmp 42], argTypes := #[58] }, type := _, pos := _, after := _, guard := _ }) rfl (fun KK hKK => ?_) AllReadyH.nil
            have hKS := Lib.hid hKK
            clear hKK
            go_simp
            refine (hhead _).mono ?_
            rintro e w7 ⟨rfl, hx⟩
            go_wp2_with fail
            refine hKS.out.out _ _ (hHeld.below hx) (fun hHeld => ?_)
            clear hKS KK hx
            try simp only [Act.put, List.setIfInBounds_toArray, List.set_cons_zero, List.set_cons_succ]
            refine wpAnyH_take (i := 8) (oi := { dst := some 44, op := Op.binOp BinOp.neq 9 (Operand.tmp 41) (Operand.tmp 43) 9, type := _, pos := _, after := _, guard := _ }) (v := ?_) rfl (by kernel_rfl) (by kernel_rfl) (by kernel_rfl) (fun _ _ _ h => h) (Or.inl ⟨by rfl, ?_⟩) hHeld ?_
            rotate_left
            · intro wq hSw
              go_simp
              rfl
            try simp only [Act.put, List.setIfInBounds_toArray, List.set_cons_zero, List.set_cons_succ]
            refine wpAnyH_take (i := 9) (oi := { dst := some 45, op := Op.pick (Operand.tmp 38) (Operand.const (Value.bool true)) (Operand.tmp 44), type := _, pos := _, after := _, guard := _ }) (v := ?_) rfl (by kernel_rfl) (by kernel_rfl) (by kernel_rfl) (fun _ _ _ h => h) (Or.inl ⟨by rfl, ?_⟩) hHeld ?_
            rotate_left
            · intro wq hSw
              go_simp
              rfl
            try simp only [Act.put, List.setIfInBounds_toArray, List.set_cons_zero, List.set_cons_succ]
            refine wpAnyH_done (by kernel_rfl) ?_ _
            go_wp2_with fail
            have d0 := hHeld.d0
            have d5 := hHeld.d5
            have c2 := hc2 _ hHeld.b
            generalize w7 = Wz at *
            go_loop [8] (fun i => ∃ k : Nat, k ≤ 1024 ∧ i = .int .i64 k ∧ ∀ j, j < k → (j < D → Gm.bit M j = true) ∧ (l.length ≤ j → Gm.bit M j = false)) (fun i => 1024 - (intOf i).toNat)
            case atStart => exact ⟨0, Nat.zero_le _, rfl, fun k hk => absurd hk (Nat.not_lt_zero _)⟩
            case round =>
              obtain ⟨k, hk, rfl, hB⟩ := hrel
              have HB := Lib.hid hB
              clear hB
              by_cases hlt : k < 1024
              · have b1 : (k : Int) < 1024 := by omega
                have hp := hbit k Wz hlt
                by_cases hkD : k < D
                · have b2 : (k : Int) < (D : Int) := by omega
                  have b3 : ¬ (l.length : Int) ≤ (k : Int) := by omega
                  cases hbt : Gm.bit M k with
                  | true =>
                    rw [hbt] at hp
                    have HT := Lib.hid hbt
                    clear hbt
                    go_wp2_with fail
                    refine hp.mono ?_
                    rintro e w' ⟨rfl, rfl⟩
                    go_wp2_with fail
                    go_round
                    case rel =>
                      refine ⟨k + 1, by omega, by go_num, fun j hj => ?_⟩
                      by_cases hjk : j = k
                      · rw [hjk]; exact ⟨fun _ => HT.out, fun h => absurd h (by omega)⟩
                      · exact HB.out j (by omega)
                    case measure => simp [intOf]; omega
                  | false =>
                    rw [hbt] at hp
                    have HT := Lib.hid hbt
                    clear hbt
                    go_wp2_with fail
                    refine hp.mono ?_
                    rintro e w' ⟨rfl, rfl⟩
                    go_wp2_with (refine sto24 (cs := gz) rfl rfl rfl rfl hHeld.r gz_one gz_one ?_)
                    intro w7 r7 s7
                    go_wp2_with fail
                    refine res24 rfl rfl rfl r7 rfl rfl ⟨.inr ⟨fun b n hv => ?_, rfl⟩, s7.below hHeld.b (Nat.le_refl _)⟩
                    have := (HV.out b n hv k hlt).1 hkD
                    rw [HT.out] at this
                    exact nomatch this
                · have b2 : ¬ (k : Int) < (D : Int) := by omega
                  by_cases hkl : l.length ≤ k
                  · have b3 : (l.length : Int) ≤ (k : Int) := by omega
                    cases hbt : Gm.bit M k with
                    | false =>
                      rw [hbt] at hp
                      have HT := Lib.hid hbt
                      clear hbt
                      go_wp2_with fail
                      refine hp.mono ?_
                      rintro e w' ⟨rfl, rfl⟩
                      go_wp2_with fail
                      go_round
                      case rel =>
                        refine ⟨k + 1, by omega, by go_num, fun j hj => ?_⟩
                        by_cases hjk : j = k
                        · rw [hjk]; exact ⟨fun h => absurd h (by omega), fun _ => HT.out⟩
                        · exact HB.out j (by omega)
                      case measure => simp [intOf]; omega
                    | true =>
                      rw [hbt] at hp
                      have HT := Lib.hid hbt
                      clear hbt
                      go_wp2_with fail
                      refine hp.mono ?_
                      rintro e w' ⟨rfl, rfl⟩
                      go_wp2_with (refine sto24 (cs := gz) rfl rfl rfl rfl hHeld.r gz_one gz_one ?_)
                      intro w7 r7 s7
                      go_wp2_with fail
                      refine res24 rfl rfl rfl r7 rfl rfl ⟨.inr ⟨fun b n hv => ?_, rfl⟩, s7.below hHeld.b (Nat.le_refl _)⟩
                      have := (HV.out b n hv k hlt).2 hkl
                      rw [HT.out] at this
                      exact nomatch this
                  · have b3 : ¬ (l.length : Int) ≤ (k : Int) := by omega
                    go_wp2_with fail
                    go_round
                    case rel =>
                      refine ⟨k + 1, by omega, by go_num, fun j hj => ?_⟩
                      by_cases hjk : j = k
                      · rw [hjk]; exact ⟨fun h => absurd h (by omega), fun h => absurd h (by omega)⟩
                      · exact HB.out j (by omega)
                    case measure => simp [intOf]; omega
              · obtain rfl : k = 1024 := by omega
                go_wp2_with (first | (refine ld24 rfl rfl rfl hHeld.o (gc_one _ _) ?_) | (refine sto24 (cs := gc l.length y) rfl rfl rfl rfl hHeld.r (gc_one _ _) gz_one ?_))
                intro w7 r7 s7
                go_wp2_with fail
                exact res24 rfl rfl rfl r7 rfl rfl ⟨.inl ⟨_, _, HY.out (fun j hj => HB.out j hj), rfl⟩, s7.below hHeld.b (Nat.le_refl _)⟩
        · have t2 := str_no hhd
          have HN := Lib.hid (show ∀ b n, ¬ Vol l b n from fun b n h => by
            obtain ⟨rfl, rfl, _, hk, _⟩ := HV0.out b n h
            exact hhd hk)
          clear hhd
          generalize headT l.length y = HT at *
          go_wp2_with fail
          refine wp_region_held_drew (S := fun w' => Bx w g l.length y w') (by kernel_rfl) hX.drew (fun hHeld => ?_)
          clear hX
          generalize w5.drew = V0 at *
          · skip
            refine wpAnyH_take (i := 0) (oi := { dst := some 36, op := Op.move (Operand.tmp 7), type := _, pos := _, after := _, guard := _ }) (v := ?_) rfl (by kernel_rfl) (by kernel_rfl) (by kernel_rfl) (fun _ _ _ h => h) (Or.inl ⟨by rfl, ?_⟩) hHeld ?_
            rotate_left
            · intro wq hSw
              go_simp
              rfl
            try simp only [Act.put, List.setIfInBounds_toArray, List.set_cons_zero, List.set_cons_succ]
            refine wpAnyH_take (i := 1) (oi := { dst := some 37, op := Op.binOp BinOp.neq 28 (Operand.tmp 36) (Operand.const (Value.int IntKind.i64 0)) 28, type := _, pos := _, after := _, guard := _ }) (v := ?_) rfl (by kernel_rfl) (by kernel_rfl) (by kernel_rfl) (fun _ _ _ h => h) (Or.inl ⟨by rfl, ?_⟩) hHeld ?_
            rotate_left
            · intro wq hSw
              go_simp
              rfl
            try simp only [Act.put, List.setIfInBounds_toArray, List.set_cons_zero, List.set_cons_succ]
            refine wpAnyH_take (i := 2) (oi := { dst := some 38, op := Op.move (Operand.tmp 37), type := _, pos := _, after := _, guard := _ }) (v := ?_) rfl (by kernel_rfl) (by kernel_rfl) (by kernel_rfl) (fun _ _ _ h => h) (Or.inl ⟨by rfl, ?_⟩) hHeld ?_
            rotate_left
            · intro wq hSw
              go_simp
              rfl
            try simp only [Act.put, List.setIfInBounds_toArray, List.set_cons_zero, List.set_cons_succ]
            refine wpAnyH_take (i := 3) (oi := { dst := some 39, op := Op.move (Operand.tmp 0), type := _, pos := _, after := _, guard := _ }) (v := ?_) rfl (by kernel_rfl) (by kernel_rfl) (by kernel_rfl) (fun _ _ _ h => h) (Or.inl ⟨by rfl, ?_⟩) hHeld ?_
            rotate_left
            · intro wq hSw
              go_simp
              rfl
            try simp only [Act.put, List.setIfInBounds_toArray, List.set_cons_zero, List.set_cons_succ]
            refine wpAnyH_take (i := 4) (oi := { dst := some 40, op := Op.indexAddr 22 (Operand.tmp 39) (Operand.const (Value.int IntKind.i64 0)), type := _, pos := _, after := _, guard := _ }) (v := ?_) rfl (by kernel_rfl) (by kernel_rfl) (by kernel_rfl) (fun _ _ _ h => h) (Or.inl ⟨by rfl, ?_⟩) hHeld ?_
            rotate_left
            · intro wq hSw
              go_simp
              rfl
            try simp only [Act.put, List.setIfInBounds_toArray, List.set_cons_zero, List.set_cons_succ]
            refine wpAnyH_take (i := 5) (oi := { dst := some 41, op := Op.load 9 (Operand.tmp 40), type := _, pos := _, after := _, guard := _ }) (v := ?_) rfl (by kernel_rfl) (by kernel_rfl) (by kernel_rfl) (fun _ _ _ h => h) (Or.inl ⟨by rfl, ?_⟩) hHeld ?_
            rotate_left
            · intro wq hSw
              have c0 := hc0 wq hSw.b
              go_simp
              rfl
            try simp only [Act.put, List.setIfInBounds_toArray, List.set_cons_zero, List.set_cons_succ]
            refine wpAnyH_ready (rs := [6]) (by kernel_rfl) (by simp) ?_
            refine AllReadyH.cons (o := { dst := some 42, op := Op.load 58 (Operand.tmp 6), type := _, pos := _, after := _, guard := _ }) rfl (fun KK hKK => ?_) AllReadyH.nil
            have hKS := Lib.hid hKK
            clear hKK
            refine ld24g (by kernel_rfl) rfl rfl hHeld.o (gc_one _ _) ?_
            refine hKS.out.out _ _ hHeld (fun hHeld => ?_)
            clear hKS KK
            try simp only [Act.put, List.setIfInBounds_toArray, List.set_cons_zero, List.set_cons_succ]
            refine wpAnyH_ready (rs := [7]) (by kernel_rfl) (by simp) ?_
            refine AllReadyH.cons (o := { dst := some 43, op := Op.call { callee := Callee.value (Operand.func 42), args := #[Operand.tmp 42], argTypes := #[58] }, type := _, pos := _, after := _, guard := _ }) rfl (fun KK hKK => ?_) AllReadyH.nil
            have hKS := Lib.hid hKK
            clear hKK
            go_simp
            refine (hhead _).mono ?_
            rintro e w7 ⟨rfl, hx⟩
            go_wp2_with fail
            refine hKS.out.out _ _ (hHeld.below hx) (fun hHeld => ?_)
            clear hKS KK hx
            try simp only [Act.put, List.setIfInBounds_toArray, List.set_cons_zero, List.set_cons_succ]
            refine wpAnyH_take (i := 8) (oi := { dst := some 44, op := Op.binOp BinOp.neq 9 (Operand.tmp 41) (Operand.tmp 43) 9, type := _, pos := _, after := _, guard := _ }) (v := ?_) rfl (by kernel_rfl) (by kernel_rfl) (by kernel_rfl) (fun _ _ _ h => h) (Or.inl ⟨by rfl, ?_⟩) hHeld ?_
            rotate_left
            · intro wq hSw
              go_simp
              rfl
            try simp only [Act.put, List.setIfInBounds_toArray, List.set_cons_zero, List.set_cons_succ]
            refine wpAnyH_take (i := 9) (oi := { dst := some 45, op := Op.pick (Operand.tmp 38) (Operand.const (Value.bool true)) (Operand.tmp 44), type := _, pos := _, after := _, guard := _ }) (v := ?_) rfl (by kernel_rfl) (by kernel_rfl) (by kernel_rfl) (fun _ _ _ h => h) (Or.inl ⟨by rfl, ?_⟩) hHeld ?_
            rotate_left
            · intro wq hSw
              go_simp
              rfl
            try simp only [Act.put, List.setIfInBounds_toArray, List.set_cons_zero, List.set_cons_succ]
            refine wpAnyH_done (by kernel_rfl) ?_ _
            go_wp2_with (refine sto24 (cs := gz) rfl rfl rfl rfl hHeld.r gz_one gz_one ?_)
            intro w7 r7 s7
            go_wp2_with fail
            exact res24 rfl rfl rfl r7 rfl rfl ⟨.inr ⟨HN.out, rfl⟩, s7.below hHeld.b (Nat.le_refl _)⟩
      · have HN := Lib.hid (show ∀ b n, ¬ Vol l b n from fun b n h => by
          obtain ⟨rfl, rfl, hk, _⟩ := HV0.out b n h
          exact hf hk)
        have t1 : (q != 0) = true := by rw [bne_iff_ne]; exact hk
        clear hf hk o5
        go_wp2_with fail
        go_quiet (fail)
        go_wp2_with (refine sto24 (cs := gz) rfl rfl rfl rfl (odr r5 ⟨_, rfl⟩) gz_one gz_one ?_)
        intro w7 r7 s7
        go_wp2_with fail
        exact res24 rfl rfl rfl r7 rfl rfl ⟨.inr ⟨HN.out, rfl⟩, s7.below (below_dr hb5 ⟨_, rfl⟩) (Nat.le_refl _)⟩
end Dw
end Go.Proofs.YtambgmjiafcokaaDoor
