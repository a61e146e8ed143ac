/-
  THE WALK of a digest of parts under a key, of the code.
-/
import Derived.Test.YtaoaebdjinlcnaaDoorSm
import Derived.Test.YtaoaebdjinlcnaaDoorBd
set_option linter.unusedVariables false
set_option linter.unusedSimpArgs false
set_option maxRecDepth 100000
namespace Go.Proofs.YtaoaebdjinlcnaaDoor
open Go.RowKit
theorem Bd.below {w w1 : World} {B b : Nat} {L : List Nat} (h : Bd w B b L) (hx : Below w.heap.size w w1) : Bd w1 B b L := by
  obtain ⟨hB, v, hbk, hown, hne⟩ := h
  refine ⟨hB, v, (hx.block b (lt_of_block hbk)).trans hbk, ⟨hown.1, ?_⟩, hne⟩
  rcases hown.2 with h | ⟨g, cap, cur, e, hg, hc, hr⟩
  · exact .inl h
  · exact .inr ⟨g, cap, cur, e, hg, (hx.block g (lt_of_block hc)).trans hc, hr⟩
theorem Hr.below2 {w wr w1 : World} {B r h n : Nat} {H : List Nat} (o : Hr w wr B r h H) (hx : Below n wr w1) (hh : h < n) (hr : r < n) : Hr w w1 B r h H :=
  ⟨Below.own hx o.oh (by omega), Below.own hx o.od (by omega), o.hB, o.rB, o.ne, o.b.trans (hx.mono (have := o.hB; by omega))⟩
theorem Hr.alloc {w wr : World} {B r h : Nat} {H : List Nat} (o : Hr w wr B r h H) (ob : Obj) : Hr w (wr.alloc ob) B r h H := o.below ((Below.refl _ _).alloc (Nat.le_refl _) _)
theorem rep_bs : (⟨(Lib.repeatL (⟨#[0]⟩ : ByteArray).data.toList 32).toArray⟩ : ByteArray) = bs (List.replicate 32 0) := by rfl
set_option maxRecDepth 100000 in
set_option maxHeartbeats 1000000 in
theorem keyed_any (K : List Nat) (a : Option Addr) (xs : List ByteArray) (c : Nat) (w : World) (hK : Bl.By K) (lK : K.length = 32) (hT : Tab w) (hp : Pts w a xs) (hN : xs.length ≤ 1000000000) (hc : xs.length ≤ c) (hl : (cat xs).length ≤ 1000000000) :
    Calls Tryd.prog 59 #[.agg (vs .u8 K), .slice a xs.length c] w fun e w' => e = .returned (.agg (vs .u8 (Bl.keyed K (cat xs)))) ∧ Below w.heap.size w w' := by
  have hb1 : Below w.heap.size w ((w.alloc (Obj.cells (vs .u8 K) 24)).alloc (Obj.cells (vs .u8 (List.replicate 32 0)) 64)) := ((Below.refl _ w).alloc (Nat.le_refl _) _).alloc (by simp) _
  have hR := (hT.below hb1).range
  obtain ⟨W0, hW0⟩ : ∃ W0, W0 = ((w.alloc (Obj.cells (vs .u8 K) 24)).alloc (Obj.cells (vs .u8 (List.replicate 32 0)) 64)).alloc (Obj.cells (vs .u32 Bl.iv) 88) := ⟨_, rfl⟩
  have z0 : W0.heap.size = w.heap.size + 1 + 1 + 1 := by rw [hW0]; simp
  have s0 : Hr w W0 w.heap.size (w.heap.size + 1) (w.heap.size + 1 + 1) Bl.iv := by
    rw [hW0]; exact ⟨Own.new' _ _ _ (by simp), (Own.new' _ _ _ (by simp)).alloc _, by omega, by omega, by omega, hb1.alloc (by simp; omega) _⟩
  have k0 : Own W0 w.heap.size 24 (vs .u8 K) := by rw [hW0]; exact ((Own.new _ _ _).alloc _).alloc _
  have cz := s0.oh.cell (i := 0) (by decide)
  have zz := s0.oh.frozen 0
  have s1 := s0.set 0 (Bl.nth Bl.iv 0 ^^^ 16850976)
  have k1 := k0.other ⟨w.heap.size + 1 + 1, 0, none⟩ (.int .u32 ((Bl.nth Bl.iv 0 ^^^ 16850976 : Nat) : Int)) (by simp <;> omega)
  change Hr w _ _ _ _ Bl.hk at s1
  obtain ⟨W1, hW1⟩ : ∃ W1, W1 = (W0.setCell ⟨w.heap.size + 1 + 1, 0, none⟩ (.int .u32 ((Bl.nth Bl.iv 0 ^^^ 16850976 : Nat) : Int))).alloc (Obj.cells #[.pointer none, .slice none 0 0] 74) := ⟨_, rfl⟩
  have st : Hr w W1 w.heap.size (w.heap.size + 1) (w.heap.size + 1 + 1) Bl.hk := by rw [hW1]; exact s1.alloc _
  have oK : Own W1 w.heap.size 24 (vs .u8 K) := by rw [hW1]; exact k1.alloc _
  have hf : W1.heap[w.heap.size + 1 + 1 + 1]? = some (.cells #[.pointer none, .slice none 0 0] 74 (0, 0)) := by rw [hW1]; exact Own.new' _ _ _ (by simp [z0])
  have hz1 : W1.heap.size = w.heap.size + 1 + 1 + 1 + 1 := by rw [hW1]; simp [z0]
  have HW0 := Lib.hid hW0
  have HW1 := Lib.hid hW1
  have HF := Lib.hid hf
  clear hW0 hW1 s0 s1 k0 k1 hb1 hf
  have lD : (Bl.keyed K (cat xs)).length = 32 := Bl.digest_length _ _
  obtain ⟨L, hL⟩ : ∃ L : List Nat → List Nat, ∀ t, L t = K ++ List.replicate 32 0 ++ t := ⟨_, fun _ => rfl⟩
  have hLl : ∀ t, (L t).length = 64 + t.length := fun t => by rw [hL, List.length_append, List.length_append, lK, List.length_replicate]
  have hLa : ∀ t u, L (t ++ u) = L t ++ u := fun t u => by rw [hL, hL]; simp only [List.append_assoc]
  have hL0 : L [] = K ++ tn (bs (List.replicate 32 0)) := by rw [hL, List.append_nil]; rfl
  have hLb : Bl.By (L (cat xs)) := fun x hx => by
    rw [hL] at hx
    rcases List.mem_append.1 hx with hx | hx
    · rcases List.mem_append.1 hx with hx | hx
      · exact hK x hx
      · rw [List.eq_of_mem_replicate hx]; decide
    · exact cat_by xs x hx
  have hd : ∀ w1, Below w.heap.size w w1 → Calls Tryd.prog 73 #[.agg (vs .u32 Bl.hk), .string (bs (L (cat xs)))] w1 fun e w' => e = .returned (.agg (vs .u8 (Bl.keyed K (cat xs)))) ∧ Below w1.heap.size w1 w' := fun w1 h => by
    have := digest_any Bl.hk (bs (L (cat xs))) Bl.hk_ok (by rw [bs_size, hLl]; omega) w1 (hT.below h)
    rw [tn_bs hLb, hL] at this; rw [hL]; exact this
  generalize Bl.keyed K (cat xs) = D at *
  go_enter Tryd.func59, Tryd.ntmps59
  go_wp2_with (first | (refine wpList_load_mid rfl _ _ rfl 0 0 rfl _ _ hR Tryd.underlying88 rfl (by kernel_rfl) ?_) | (refine sto_new (l := Bl.iv) t42 rfl rfl rfl (by simp) rfl rfl rfl ?_; change wpList _ _ _ _ _ (((w.alloc (Obj.cells (vs .u8 K) 24)).alloc (Obj.cells (vs .u8 (List.replicate 32 0)) 64)).alloc (Obj.cells (vs .u32 Bl.iv) 88)); rw [← HW0.out]))
  rw [show bits BinOp.xor IntKind.u32 ((Bl.nth Bl.iv 0 : Nat) : Int) 16850976 = ((Bl.nth Bl.iv 0 ^^^ 16850976 : Nat) : Int) from by decide]
  clear cz zz hR HW0
  change Calls _ _ _ ((W0.setCell ⟨w.heap.size + 1 + 1, 0, none⟩ (.int .u32 ((Bl.nth Bl.iv 0 ^^^ 16850976 : Nat) : Int))).alloc (Obj.cells #[.pointer none, .slice none 0 0] 74)) _
  rw [← HW1.out]
  clear HW1 z0
  generalize hBB : w.heap.size = B at *
  refine (write_any (B + 1 + 1 + 1) (B + 1 + 1 + 1) B 24 K 32 W1 (Nat.le_refl _) HF.out oK (by omega) hK lK (by omega) (by omega)).mono ?_
  rintro e w2 ⟨rfl, bd, hx⟩
  replace st := st.below2 hx (by omega) (by omega)
  have hz2 := hx.size
  clear hx oK HF
  go_wp2_with fail
  refine (Tryd.strings_Repeat ⟨#[0]⟩ 32 _ (by decide) (by decide)).mono ?_
  rintro e w3 ⟨rfl, hx⟩
  rw [rep_bs]
  replace st := st.below hx
  replace bd := bd.below hx
  have hz3 := hx.size
  clear hx
  go_wp2_with fail
  refine (wstring_any _ _ K (bs (List.replicate 32 0)) _ bd (by rw [bs_size, lK]; decide) (by omega)).mono ?_
  rintro e w4 ⟨rfl, bd, hx⟩
  replace st := st.below2 hx (by omega) (by omega)
  have hz4 := hx.size
  clear hx
  rw [← hL0] at bd
  go_wp2_with fail
  have hz5 : B + 1 + 1 + 1 + 1 ≤ w4.heap.size := by omega
  clear hz1 hz2 hz3 hz4
  go_loopw [20] (fun i' wr => ∃ j : Nat, j ≤ xs.length ∧ i' = .int .i64 j ∧ Hr w wr B (B + 1) (B + 1 + 1) Bl.hk ∧ Bd wr (B + 1 + 1 + 1) (B + 1 + 1 + 1) (L (cat (xs.take j))) ∧ B + 1 + 1 + 1 + 1 ≤ wr.heap.size) (fun i _ => xs.length - (intOf i).toNat)
  case atStart => exact ⟨0, by omega, rfl, st, bd, hz5⟩
  case round =>
    clear st bd hz5
    obtain ⟨j, hj, rfl, st, bd, hz5⟩ := hrel
    generalize wr = wo at *
    by_cases hlt : j < xs.length
    · have hji : (j : Int) < (xs.length : Int) := by omega
      have hle := cat_take_le xs (j + 1)
      have en := cat_next xs j hlt
      rcases hp with h | ⟨g, o, rfl, hg, hcell⟩
      · subst h; exact absurd hlt (by simp)
      · have c1 := (st.b.cell (p := ⟨g, o + j, none⟩) (by rw [← hBB]; exact hg)).trans (hcell j xs[j] (by simp [hlt]))
        obtain ⟨x, hx⟩ : ∃ x, x = xs[j] := ⟨_, rfl⟩
        rw [← hx] at en c1
        rw [en, List.length_append, tn_length] at hle
        have hw := wstring_any _ _ _ x _ bd (by rw [hLl]; omega) (by omega)
        rw [← hLa, ← en] at hw
        have HE := Lib.hid en
        clear hx hcell en bd
        go_wp2_with fail
        refine hw.mono ?_
        rintro e w6 ⟨rfl, bd, hx⟩
        replace st := st.below2 hx (by omega) (by omega)
        have hz6 := hx.size
        go_wp2_with fail
        go_roundw
        case rel => exact ⟨j + 1, by omega, by go_num, st, bd, by omega⟩
        case measure => simp [intOf]; omega
    · obtain rfl : j = xs.length := by omega
      rw [List.take_length] at bd
      go_wp2_with fail
      generalize L (cat xs) = T at *
      have hS := fun w1 (h : Bd w1 (B + 1 + 1 + 1) (B + 1 + 1 + 1) T) (hz : B + 1 + 1 + 1 + 1 ≤ w1.heap.size) => string_any _ _ _ w1 h (by omega)
      refine wp_region_any (by kernel_rfl) ?_
      change wpAny _ _ _ _ _ _ _ wo.drew
      replace st := st.drew
      replace bd := bd.drew
      replace hz5 : B + 1 + 1 + 1 + 1 ≤ wo.drew.heap.size := hz5
      refine wpAny_ready (rs := [0, 1]) (by kernel_rfl) (by simp) ?_
      refine AllReady.cons (o := { dst := some 27, op := Op.load 88 (Operand.tmp 5), type := _, pos := _, after := _, guard := _ }) rfl (fun KK hKK => ?_) ?_
      · have hKS := Lib.hid hKK
        clear hKK
        rw [if_pos (by rfl)]
        refine lw t42 _ rfl _ rfl st.oh Bl.hk_ok.1 ?_
        refine hKS.out _ _ ?_
        clear hKS KK
        try simp only [Act.put, List.setIfInBounds_toArray, List.set_cons_zero, List.set_cons_succ]
        refine wpAny_ready (rs := [1]) (by kernel_rfl) (by simp) ?_
        refine AllReady.cons (o := { dst := some 28, op := Op.call { callee := Callee.value (Operand.func 53), args := #[Operand.tmp 6], argTypes := #[74] }, type := _, pos := _, after := _, guard := _ }) rfl (fun KK hKK => ?_) AllReady.nil
        have hKS := Lib.hid hKK
        clear hKK
        go_simp
        refine (hS _ bd hz5).mono ?_
        rintro e w1 ⟨rfl, hx⟩
        go_wp2_with fail
        replace st := st.below2 hx (by omega) (by omega)
        clear hx
        refine hKS.out _ _ ?_
        clear hKS KK
        try simp only [Act.put, List.setIfInBounds_toArray, List.set_cons_zero, List.set_cons_succ]
        refine wpAny_ready (rs := [2]) (by kernel_rfl) (by simp) ?_
        refine AllReady.cons (o := { dst := some 29, op := Op.call { callee := Callee.value (Operand.func 73), args := #[Operand.tmp 27, Operand.tmp 28], argTypes := #[88, 9] }, type := _, pos := _, after := _, guard := _ }) rfl (fun KK hKK => ?_) AllReady.nil
        have hKS := Lib.hid hKK
        clear hKK
        go_simp
        refine (hd _ st.b).mono ?_
        rintro e w2 ⟨rfl, hx⟩
        go_wp2_with fail
        replace st := st.below hx
        clear hx
        refine hKS.out _ _ ?_
        clear hKS KK
        try simp only [Act.put, List.setIfInBounds_toArray, List.set_cons_zero, List.set_cons_succ]
        refine wpAny_ready (rs := [3]) (by kernel_rfl) (by simp) ?_
        refine AllReady.cons (o := { dst := none, op := Op.store 64 (Operand.tmp 4) (Operand.tmp 29), type := _, pos := _, after := _, guard := _ }) rfl (fun KK hKK => ?_) AllReady.nil
        have hKS := Lib.hid hKK
        clear hKK
        rw [if_pos (by rfl)]
        refine ss t24 _ _ rfl _ rfl rfl st.od (by simp) lD ?_
        have hz := st.done D
        refine hKS.out _ _ ?_
        clear hKS KK
        try simp only [Act.put, List.setIfInBounds_toArray, List.set_cons_zero, List.set_cons_succ]
        refine wpAny_done (by kernel_rfl) ?_ _
        go_wp2_with fail
        exact ret_arr t24 rfl rfl hz.1 lD rfl ⟨rfl, by rw [hBB]; exact hz.2⟩
      refine AllReady.cons (o := { dst := some 28, op := Op.call { callee := Callee.value (Operand.func 53), args := #[Operand.tmp 6], argTypes := #[74] }, type := _, pos := _, after := _, guard := _ }) rfl (fun KK hKK => ?_) AllReady.nil
      · have hKS := Lib.hid hKK
        clear hKK
        go_simp
        refine (hS _ bd hz5).mono ?_
        rintro e w1 ⟨rfl, hx⟩
        go_wp2_with fail
        replace st := st.below2 hx (by omega) (by omega)
        clear hx
        refine hKS.out _ _ ?_
        clear hKS KK
        try simp only [Act.put, List.setIfInBounds_toArray, List.set_cons_zero, List.set_cons_succ]
        refine wpAny_ready (rs := [0]) (by kernel_rfl) (by simp) ?_
        refine AllReady.cons (o := { dst := some 27, op := Op.load 88 (Operand.tmp 5), type := _, pos := _, after := _, guard := _ }) rfl (fun KK hKK => ?_) AllReady.nil
        have hKS := Lib.hid hKK
        clear hKK
        rw [if_pos (by rfl)]
        refine lw t42 _ rfl _ rfl st.oh Bl.hk_ok.1 ?_
        refine hKS.out _ _ ?_
        clear hKS KK
        try simp only [Act.put, List.setIfInBounds_toArray, List.set_cons_zero, List.set_cons_succ]
        refine wpAny_ready (rs := [2]) (by kernel_rfl) (by simp) ?_
        refine AllReady.cons (o := { dst := some 29, op := Op.call { callee := Callee.value (Operand.func 73), args := #[Operand.tmp 27, Operand.tmp 28], argTypes := #[88, 9] }, type := _, pos := _, after := _, guard := _ }) rfl (fun KK hKK => ?_) AllReady.nil
        have hKS := Lib.hid hKK
        clear hKK
        go_simp
        refine (hd _ st.b).mono ?_
        rintro e w2 ⟨rfl, hx⟩
        go_wp2_with fail
        replace st := st.below hx
        clear hx
        refine hKS.out _ _ ?_
        clear hKS KK
        try simp only [Act.put, List.setIfInBounds_toArray, List.set_cons_zero, List.set_cons_succ]
        refine wpAny_ready (rs := [3]) (by kernel_rfl) (by simp) ?_
        refine AllReady.cons (o := { dst := none, op := Op.store 64 (Operand.tmp 4) (Operand.tmp 29), type := _, pos := _, after := _, guard := _ }) rfl (fun KK hKK => ?_) AllReady.nil
        have hKS := Lib.hid hKK
        clear hKK
        rw [if_pos (by rfl)]
        refine ss t24 _ _ rfl _ rfl rfl st.od (by simp) lD ?_
        have hz := st.done D
        refine hKS.out _ _ ?_
        clear hKS KK
        try simp only [Act.put, List.setIfInBounds_toArray, List.set_cons_zero, List.set_cons_succ]
        refine wpAny_done (by kernel_rfl) ?_ _
        go_wp2_with fail
        exact ret_arr t24 rfl rfl hz.1 lD rfl ⟨rfl, by rw [hBB]; exact hz.2⟩
end Go.Proofs.YtaoaebdjinlcnaaDoor
