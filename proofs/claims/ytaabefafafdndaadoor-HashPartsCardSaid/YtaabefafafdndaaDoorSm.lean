/-
  THE WALKS of a digest of parts, without a key, of the code and of the document's answer.
-/
import Derived.Test.YtaabefafafdndaaDoorJn
import Derived.Test.YtaabefafafdndaaDoorDd
import Derived.Deep.MidRow
namespace Go.Proofs.YtaabefafafdndaaDoor
open Go.RowKit
/-- the blocks of a call that makes a digest -/
structure Hr (w wr : World) (B r h : Nat) (H : List Nat) : Prop where
  oh : Own wr h 42 (vs .u32 H)
  od : Own wr r 24 (vs .u8 (List.replicate 32 0))
  hB : B ≤ h
  rB : B ≤ r
  ne : h ≠ r
  b : Below B w wr
theorem Hr.below {w wr w1 : World} {B r h : Nat} {H : List Nat} (o : Hr w wr B r h H) (hx : Below wr.heap.size wr w1) : Hr w w1 B r h H :=
  have := o.oh.lt
  have := o.od.lt
  ⟨Below.own hx o.oh (by omega), Below.own hx o.od (by omega), o.hB, o.rB, o.ne, o.b.trans (hx.mono (have := o.hB; by omega))⟩
theorem Hr.drew {w wr : World} {B r h : Nat} {H : List Nat} (o : Hr w wr B r h H) : Hr w wr.drew B r h H := ⟨o.oh, o.od, o.hB, o.rB, o.ne, o.b.drew⟩
theorem Hr.set {w wr : World} {B r h : Nat} {H : List Nat} (o : Hr w wr B r h H) (i x : Nat) : Hr w (wr.setCell ⟨h, i, none⟩ (.int .u32 (x : Int))) B r h (H.set i x) :=
  ⟨o.oh.set i x, o.od.other _ _ o.ne.symm, o.hB, o.rB, o.ne, o.b.setCell o.hB _⟩
theorem Hr.done {w wr : World} {B r h : Nat} {H : List Nat} (o : Hr w wr B r h H) (D : List Nat) : Own (wr.setRow r (vs .u8 D)) r 24 (vs .u8 D) ∧ Below B w (wr.setRow r (vs .u8 D)) := ⟨o.od.row _, below_row o.b o.rB _⟩
theorem Tab.range {w : World} (h : Tab w) : w.rangeAt 0 0 (vs .u32 Bl.iv).toList := fun j v hv => by
  have hj : j < 8 := by
    by_cases hj : j < 8
    · exact hj
    · rw [List.getElem?_eq_none (by simp [vs, Bl.iv]; omega)] at hv; exact absurd hv (by simp)
  rw [Array.getElem?_toList, vs_get .u32 (by rw [iv_len]; exact hj)] at hv
  rw [Nat.zero_add, h.1 j hj]; exact hv
set_option maxRecDepth 100000 in
set_option maxHeartbeats 1000000 in
theorem sum_any (a : Option Addr) (xs : List ByteArray) (c : Nat) (w : World) (hT : Tab w) (hp : Pts w a xs) (hN : xs.length ≤ 1000000000) (hc : xs.length ≤ c) (hl : (cat xs).length ≤ 1000000000) :
    Calls Tryd.prog 10 #[.slice a xs.length c] w fun e w' => e = .returned (.agg (vs .u8 (Bl.sum (cat xs)))) ∧ Below w.heap.size w w' := by
  have hb1 : Below w.heap.size w (w.alloc (Obj.cells (vs .u8 (List.replicate 32 0)) 24)) := (Below.refl _ w).alloc (Nat.le_refl _) _
  obtain ⟨W0, hW0⟩ : ∃ W0, W0 = (w.alloc (Obj.cells (vs .u8 (List.replicate 32 0)) 24)).alloc (Obj.cells (vs .u32 Bl.iv) 42) := ⟨_, rfl⟩
  have s0 : Hr w W0 w.heap.size w.heap.size (w.heap.size + 1) Bl.iv := by
    rw [hW0]; exact ⟨Own.new' _ _ _ (by simp), (Own.new _ _ _).alloc _, by omega, by omega, by omega, hb1.alloc (by simp) _⟩
  have st := s0.set 0 (Bl.nth Bl.iv 0 ^^^ 16842784)
  have hR := (hT.below hb1).range
  have cz := s0.oh.cell (i := 0) (by decide)
  have zz := s0.oh.frozen 0
  change Hr w _ _ _ _ Bl.h0 at st
  have HW0 := Lib.hid hW0
  clear hW0
  have lD : (Bl.sum (cat xs)).length = 32 := Bl.digest_length _ _
  have tb : tn (bs (cat xs)) = cat xs := tn_bs (cat_by xs)
  have lb : (bs (cat xs)).size ≤ 4611686018427387904 := by rw [bs_size]; omega
  have hj := fun w1 (h : Below w.heap.size w w1) => join_any a xs c w1 (hp.below h) hN hc hl
  have hd : ∀ w1, Below w.heap.size w w1 → Calls Tryd.prog 19 #[.agg (vs .u32 Bl.h0), .string (bs (cat xs))] w1 fun e w' => e = .returned (.agg (vs .u8 (Bl.sum (cat xs)))) ∧ Below w1.heap.size w1 w' := fun w1 h => by
    have := digest_any Bl.h0 (bs (cat xs)) Bl.h0_ok lb w1 (hT.below h)
    rw [tb] at this; exact this
  clear tb lb
  generalize Bl.sum (cat xs) = D at *
  generalize bs (cat xs) = b at *
  go_enter Tryd.func10, Tryd.ntmps10
  go_wp2_with (first | (refine wpList_load_mid rfl _ _ rfl 0 0 rfl _ _ hR Tryd.underlying42 rfl (by kernel_rfl) ?_) | (refine sto_new (l := Bl.iv) t42 rfl rfl rfl (by simp) rfl rfl rfl ?_; change wpList _ _ _ _ _ ((w.alloc (Obj.cells (vs .u8 (List.replicate 32 0)) 24)).alloc (Obj.cells (vs .u32 Bl.iv) 42)); rw [← HW0.out]))
  rw [show bits BinOp.xor IntKind.u32 ((Bl.nth Bl.iv 0 : Nat) : Int) 16842784 = ((Bl.nth Bl.iv 0 ^^^ 16842784 : Nat) : Int) from by decide]
  generalize W0.setCell ⟨w.heap.size + 1, 0, none⟩ (.int .u32 ((Bl.nth Bl.iv 0 ^^^ 16842784 : Nat) : Int)) = W1 at *
  clear HW0 s0 cz zz hR hb1
  generalize hBB : w.heap.size = B at *
  refine wp_region_any (by kernel_rfl) ?_
  change wpAny _ _ _ _ _ _ _ W1.drew
  replace st := st.drew
  refine wpAny_take (i := 1) (oi := { dst := some 10, op := Op.move (Operand.tmp 0), type := _, pos := _, after := _, guard := _ }) (v := ?_) rfl (by kernel_rfl) (by kernel_rfl) (by kernel_rfl) (fun _ _ _ h => h) (Or.inl ⟨by rfl, ?_⟩) ?_
  rotate_left
  · intro wq
    go_simp
    rfl
  try simp only [Act.put, List.setIfInBounds_toArray, List.set_cons_zero, List.set_cons_succ]
  refine wpAny_ready (rs := [0, 2]) (by kernel_rfl) (by simp) ?_
  refine AllReady.cons (o := { dst := some 9, op := Op.load 42 (Operand.tmp 3), type := _, pos := _, after := _, guard := _ }) rfl (fun KK hKK => ?_) ?_
  · have hKS := Lib.hid hKK
    clear hKK
    rw [if_pos (by rfl)]
    refine lw t42 _ rfl _ rfl st.oh Bl.h0_ok.1 ?_
    refine hKS.out _ _ ?_
    clear hKS KK
    try simp only [Act.put, List.setIfInBounds_toArray, List.set_cons_zero, List.set_cons_succ]
    refine wpAny_ready (rs := [2]) (by kernel_rfl) (by simp) ?_
    refine AllReady.cons (o := { dst := some 11, op := Op.call { callee := Callee.value (Operand.func 20), args := #[Operand.tmp 10, Operand.const (Value.string { data := #[] })], argTypes := #[31, 9] }, type := _, pos := _, after := _, guard := _ }) rfl (fun KK hKK => ?_) AllReady.nil
    have hKS := Lib.hid hKK
    clear hKK
    go_simp
    refine (hj _ st.b).mono ?_
    rintro e w2 ⟨rfl, hx⟩
    go_wp2_with fail
    replace st := st.below hx
    clear hx
    refine hKS.out _ _ ?_
    clear hKS KK
    try simp only [Act.put, List.setIfInBounds_toArray, List.set_cons_zero, List.set_cons_succ]
    refine wpAny_ready (rs := [3]) (by kernel_rfl) (by simp) ?_
    refine AllReady.cons (o := { dst := some 12, op := Op.call { callee := Callee.value (Operand.func 19), args := #[Operand.tmp 9, Operand.tmp 11], argTypes := #[42, 9] }, type := _, pos := _, after := _, guard := _ }) rfl (fun KK hKK => ?_) AllReady.nil
    have hKS := Lib.hid hKK
    clear hKK
    go_simp
    refine (hd _ st.b).mono ?_
    rintro e w3 ⟨rfl, hx⟩
    go_wp2_with fail
    replace st := st.below hx
    clear hx
    refine hKS.out _ _ ?_
    clear hKS KK
    try simp only [Act.put, List.setIfInBounds_toArray, List.set_cons_zero, List.set_cons_succ]
    refine wpAny_ready (rs := [4]) (by kernel_rfl) (by simp) ?_
    refine AllReady.cons (o := { dst := none, op := Op.store 24 (Operand.tmp 2) (Operand.tmp 12), type := _, pos := _, after := _, guard := _ }) rfl (fun KK hKK => ?_) AllReady.nil
    have hKS := Lib.hid hKK
    clear hKK
    rw [if_pos (by rfl)]
    refine ss t24 _ _ rfl _ rfl rfl st.od (by simp) lD ?_
    have hz := st.done D
    refine hKS.out _ _ ?_
    clear hKS KK
    try simp only [Act.put, List.setIfInBounds_toArray, List.set_cons_zero, List.set_cons_succ]
    refine wpAny_done (by kernel_rfl) ?_ _
    go_wp2_with fail
    exact ret_arr t24 rfl rfl hz.1 lD rfl ⟨rfl, by rw [hBB]; exact hz.2⟩
  refine AllReady.cons (o := { dst := some 11, op := Op.call { callee := Callee.value (Operand.func 20), args := #[Operand.tmp 10, Operand.const (Value.string { data := #[] })], argTypes := #[31, 9] }, type := _, pos := _, after := _, guard := _ }) rfl (fun KK hKK => ?_) AllReady.nil
  · have hKS := Lib.hid hKK
    clear hKK
    go_simp
    refine (hj _ st.b).mono ?_
    rintro e w2 ⟨rfl, hx⟩
    go_wp2_with fail
    replace st := st.below hx
    clear hx
    refine hKS.out _ _ ?_
    clear hKS KK
    try simp only [Act.put, List.setIfInBounds_toArray, List.set_cons_zero, List.set_cons_succ]
    refine wpAny_ready (rs := [0]) (by kernel_rfl) (by simp) ?_
    refine AllReady.cons (o := { dst := some 9, op := Op.load 42 (Operand.tmp 3), type := _, pos := _, after := _, guard := _ }) rfl (fun KK hKK => ?_) AllReady.nil
    have hKS := Lib.hid hKK
    clear hKK
    rw [if_pos (by rfl)]
    refine lw t42 _ rfl _ rfl st.oh Bl.h0_ok.1 ?_
    refine hKS.out _ _ ?_
    clear hKS KK
    try simp only [Act.put, List.setIfInBounds_toArray, List.set_cons_zero, List.set_cons_succ]
    refine wpAny_ready (rs := [3]) (by kernel_rfl) (by simp) ?_
    refine AllReady.cons (o := { dst := some 12, op := Op.call { callee := Callee.value (Operand.func 19), args := #[Operand.tmp 9, Operand.tmp 11], argTypes := #[42, 9] }, type := _, pos := _, after := _, guard := _ }) rfl (fun KK hKK => ?_) AllReady.nil
    have hKS := Lib.hid hKK
    clear hKK
    go_simp
    refine (hd _ st.b).mono ?_
    rintro e w3 ⟨rfl, hx⟩
    go_wp2_with fail
    replace st := st.below hx
    clear hx
    refine hKS.out _ _ ?_
    clear hKS KK
    try simp only [Act.put, List.setIfInBounds_toArray, List.set_cons_zero, List.set_cons_succ]
    refine wpAny_ready (rs := [4]) (by kernel_rfl) (by simp) ?_
    refine AllReady.cons (o := { dst := none, op := Op.store 24 (Operand.tmp 2) (Operand.tmp 12), type := _, pos := _, after := _, guard := _ }) rfl (fun KK hKK => ?_) AllReady.nil
    have hKS := Lib.hid hKK
    clear hKK
    rw [if_pos (by rfl)]
    refine ss t24 _ _ rfl _ rfl rfl st.od (by simp) lD ?_
    have hz := st.done D
    refine hKS.out _ _ ?_
    clear hKS KK
    try simp only [Act.put, List.setIfInBounds_toArray, List.set_cons_zero, List.set_cons_succ]
    refine wpAny_done (by kernel_rfl) ?_ _
    go_wp2_with fail
    exact ret_arr t24 rfl rfl hz.1 lD rfl ⟨rfl, by rw [hBB]; exact hz.2⟩
set_option maxRecDepth 100000 in
set_option maxHeartbeats 1000000 in
theorem rsum_any (a : Option Addr) (xs : List ByteArray) (c : Nat) (w : World) (hp : Pts w a xs) (hN : xs.length ≤ 1000000000) (hc : xs.length ≤ c) (hl : (cat xs).length ≤ 1000000000) :
    Calls Tryd.prog 21 #[.slice a xs.length c] w fun e w' => e = .returned (.agg (vs .u8 (Bl.sum (cat xs)))) ∧ Below w.heap.size w w' := by
  obtain ⟨V0, hV0⟩ : ∃ V0, V0 = w.alloc (Obj.cells (vs .u8 (List.replicate 32 0)) 24) := ⟨_, rfl⟩
  have hb1 : Below w.heap.size w V0 := by rw [hV0]; exact (Below.refl _ w).alloc (Nat.le_refl _) _
  have o1 : Own V0 w.heap.size 24 (vs .u8 (List.replicate 32 0)) := by rw [hV0]; exact Own.new _ _ _
  have lD : (Bl.sum (cat xs)).length = 32 := Bl.digest_length _ _
  have tb : tn (bs (cat xs)) = cat xs := tn_bs (cat_by xs)
  have lb : (bs (cat xs)).size ≤ 4611686018427387904 := by rw [bs_size]; omega
  have hj := fun w1 (h : Below w.heap.size w w1) => joined_any a xs c w1 (hp.below h) hN hl
  have hd : ∀ w1, Below w.heap.size w w1 → Calls Tryd.prog 27 #[.agg (vs .u32 Bl.h0), .string (bs (cat xs))] w1 fun e w' => e = .returned (.agg (vs .u8 (Bl.sum (cat xs)))) ∧ Below w1.heap.size w1 w' := fun w1 h => by
    have := rdigest_any Bl.h0 (bs (cat xs)) Bl.h0_ok lb w1
    rw [tb] at this; exact this
  clear tb lb
  generalize Bl.sum (cat xs) = D at *
  generalize bs (cat xs) = b at *
  have HV0 := Lib.hid hV0
  clear hV0
  go_enter Tryd.func21, Tryd.ntmps21
  go_wp2_with fail
  change Calls _ _ _ (w.alloc (Obj.cells (vs .u8 (List.replicate 32 0)) 24)) _
  rw [← HV0.out]
  clear HV0
  refine (eight_any _).mono ?_
  rintro e w1 ⟨rfl, hx⟩
  obtain ⟨g, hg⟩ : ∃ g, g = w1.heap.size := ⟨_, rfl⟩
  have hz := hx.size
  have hlt := o1.lt
  obtain ⟨W0, hW0⟩ : ∃ W0, W0 = w1.alloc (Obj.cells (vs .u32 Bl.iv) 42) := ⟨_, rfl⟩
  have s0 : Hr w W0 w.heap.size w.heap.size g Bl.iv := by
    rw [hW0]; exact ⟨Own.new' _ _ _ hg, (Below.own hx o1 (by omega)).alloc _, by omega, by omega, by omega, (hb1.trans (hx.mono (by omega))).alloc (by omega) _⟩
  have st := s0.set 0 (Bl.nth Bl.iv 0 ^^^ 16842784)
  have cz := s0.oh.cell (i := 0) (by decide)
  have zz := s0.oh.frozen 0
  change Hr w _ _ _ _ Bl.h0 at st
  have HW0 := Lib.hid hW0
  have HG := Lib.hid hg
  clear hW0 hx hz hlt hb1 o1 hg
  go_wp2_with (refine sto_new (l := Bl.iv) t42 rfl rfl rfl (by simp) rfl rfl rfl ?_; rw [← HW0.out, ← HG.out])
  rw [show bits BinOp.xor IntKind.u32 ((Bl.nth Bl.iv 0 : Nat) : Int) 16842784 = ((Bl.nth Bl.iv 0 ^^^ 16842784 : Nat) : Int) from by decide]
  generalize W0.setCell ⟨g, 0, none⟩ (.int .u32 ((Bl.nth Bl.iv 0 ^^^ 16842784 : Nat) : Int)) = W1 at *
  clear HW0 HG s0 cz zz
  generalize hBB : w.heap.size = B at *
  refine wp_region_any (by kernel_rfl) ?_
  change wpAny _ _ _ _ _ _ _ W1.drew
  replace st := st.drew
  refine wpAny_take (i := 1) (oi := { dst := some 10, op := Op.move (Operand.tmp 0), type := _, pos := _, after := _, guard := _ }) (v := ?_) rfl (by kernel_rfl) (by kernel_rfl) (by kernel_rfl) (fun _ _ _ h => h) (Or.inl ⟨by rfl, ?_⟩) ?_
  rotate_left
  · intro wq
    go_simp
    rfl
  try simp only [Act.put, List.setIfInBounds_toArray, List.set_cons_zero, List.set_cons_succ]
  refine wpAny_ready (rs := [0, 2]) (by kernel_rfl) (by simp) ?_
  refine AllReady.cons (o := { dst := some 9, op := Op.load 42 (Operand.tmp 3), type := _, pos := _, after := _, guard := _ }) rfl (fun KK hKK => ?_) ?_
  · have hKS := Lib.hid hKK
    clear hKK
    rw [if_pos (by rfl)]
    refine lw t42 _ rfl _ rfl st.oh Bl.h0_ok.1 ?_
    refine hKS.out _ _ ?_
    clear hKS KK
    try simp only [Act.put, List.setIfInBounds_toArray, List.set_cons_zero, List.set_cons_succ]
    refine wpAny_ready (rs := [2]) (by kernel_rfl) (by simp) ?_
    refine AllReady.cons (o := { dst := some 11, op := Op.call { callee := Callee.value (Operand.func 28), args := #[Operand.tmp 10], argTypes := #[31] }, type := _, pos := _, after := _, guard := _ }) rfl (fun KK hKK => ?_) AllReady.nil
    have hKS := Lib.hid hKK
    clear hKK
    go_simp
    refine (hj _ st.b).mono ?_
    rintro e w2 ⟨rfl, rfl⟩
    go_wp2_with fail
    refine hKS.out _ _ ?_
    clear hKS KK
    try simp only [Act.put, List.setIfInBounds_toArray, List.set_cons_zero, List.set_cons_succ]
    refine wpAny_ready (rs := [3]) (by kernel_rfl) (by simp) ?_
    refine AllReady.cons (o := { dst := some 12, op := Op.call { callee := Callee.value (Operand.func 27), args := #[Operand.tmp 9, Operand.tmp 11], argTypes := #[42, 9] }, type := _, pos := _, after := _, guard := _ }) rfl (fun KK hKK => ?_) AllReady.nil
    have hKS := Lib.hid hKK
    clear hKK
    go_simp
    refine (hd _ st.b).mono ?_
    rintro e w3 ⟨rfl, hx⟩
    go_wp2_with fail
    replace st := st.below hx
    clear hx
    refine hKS.out _ _ ?_
    clear hKS KK
    try simp only [Act.put, List.setIfInBounds_toArray, List.set_cons_zero, List.set_cons_succ]
    refine wpAny_ready (rs := [4]) (by kernel_rfl) (by simp) ?_
    refine AllReady.cons (o := { dst := none, op := Op.store 24 (Operand.tmp 2) (Operand.tmp 12), type := _, pos := _, after := _, guard := _ }) rfl (fun KK hKK => ?_) AllReady.nil
    have hKS := Lib.hid hKK
    clear hKK
    rw [if_pos (by rfl)]
    refine ss t24 _ _ rfl _ rfl rfl st.od (by simp) lD ?_
    have hz := st.done D
    refine hKS.out _ _ ?_
    clear hKS KK
    try simp only [Act.put, List.setIfInBounds_toArray, List.set_cons_zero, List.set_cons_succ]
    refine wpAny_done (by kernel_rfl) ?_ _
    go_wp2_with fail
    exact ret_arr t24 rfl rfl hz.1 lD rfl ⟨rfl, by rw [hBB]; exact hz.2⟩
  refine AllReady.cons (o := { dst := some 11, op := Op.call { callee := Callee.value (Operand.func 28), args := #[Operand.tmp 10], argTypes := #[31] }, type := _, pos := _, after := _, guard := _ }) rfl (fun KK hKK => ?_) AllReady.nil
  · have hKS := Lib.hid hKK
    clear hKK
    go_simp
    refine (hj _ st.b).mono ?_
    rintro e w2 ⟨rfl, rfl⟩
    go_wp2_with fail
    refine hKS.out _ _ ?_
    clear hKS KK
    try simp only [Act.put, List.setIfInBounds_toArray, List.set_cons_zero, List.set_cons_succ]
    refine wpAny_ready (rs := [0]) (by kernel_rfl) (by simp) ?_
    refine AllReady.cons (o := { dst := some 9, op := Op.load 42 (Operand.tmp 3), type := _, pos := _, after := _, guard := _ }) rfl (fun KK hKK => ?_) AllReady.nil
    have hKS := Lib.hid hKK
    clear hKK
    rw [if_pos (by rfl)]
    refine lw t42 _ rfl _ rfl st.oh Bl.h0_ok.1 ?_
    refine hKS.out _ _ ?_
    clear hKS KK
    try simp only [Act.put, List.setIfInBounds_toArray, List.set_cons_zero, List.set_cons_succ]
    refine wpAny_ready (rs := [3]) (by kernel_rfl) (by simp) ?_
    refine AllReady.cons (o := { dst := some 12, op := Op.call { callee := Callee.value (Operand.func 27), args := #[Operand.tmp 9, Operand.tmp 11], argTypes := #[42, 9] }, type := _, pos := _, after := _, guard := _ }) rfl (fun KK hKK => ?_) AllReady.nil
    have hKS := Lib.hid hKK
    clear hKK
    go_simp
    refine (hd _ st.b).mono ?_
    rintro e w3 ⟨rfl, hx⟩
    go_wp2_with fail
    replace st := st.below hx
    clear hx
    refine hKS.out _ _ ?_
    clear hKS KK
    try simp only [Act.put, List.setIfInBounds_toArray, List.set_cons_zero, List.set_cons_succ]
    refine wpAny_ready (rs := [4]) (by kernel_rfl) (by simp) ?_
    refine AllReady.cons (o := { dst := none, op := Op.store 24 (Operand.tmp 2) (Operand.tmp 12), type := _, pos := _, after := _, guard := _ }) rfl (fun KK hKK => ?_) AllReady.nil
    have hKS := Lib.hid hKK
    clear hKK
    rw [if_pos (by rfl)]
    refine ss t24 _ _ rfl _ rfl rfl st.od (by simp) lD ?_
    have hz := st.done D
    refine hKS.out _ _ ?_
    clear hKS KK
    try simp only [Act.put, List.setIfInBounds_toArray, List.set_cons_zero, List.set_cons_succ]
    refine wpAny_done (by kernel_rfl) ?_ _
    go_wp2_with fail
    exact ret_arr t24 rfl rfl hz.1 lD rfl ⟨rfl, by rw [hBB]; exact hz.2⟩
set_option maxRecDepth 100000 in
theorem one_any (s : ByteArray) (w : World) (hl : s.size ≤ 1000000000) :
    Calls Tryd.prog 11 #[.string s] w fun e w' => e = .returned (.agg (vs .u8 (Bl.sum (tn s)))) ∧ Below w.heap.size w w' := by
  have hc1 : cat [s] = tn s := by simp [cat]
  have lD : (Bl.sum (tn s)).length = 32 := Bl.digest_length _ _
  obtain ⟨W0, hW0⟩ : ∃ W0, W0 = (w.alloc (Obj.cells (vs .u8 (List.replicate 32 0)) 24)).alloc (Obj.cells #[.string s] 9) := ⟨_, rfl⟩
  have o1 : Own W0 w.heap.size 24 (vs .u8 (List.replicate 32 0)) := by rw [hW0]; exact (Own.new _ _ _).alloc _
  have hb0 : Below w.heap.size w W0 := by rw [hW0]; exact ((Below.refl _ w).alloc (Nat.le_refl _) _).alloc (by simp) _
  have o2 : Own W0 (w.heap.size + 1) 9 #[.string s] := by rw [hW0]; exact Own.new' _ _ _ (by simp)
  have hp : Pts W0 (some ⟨w.heap.size + 1, 0, none⟩) [s] := .inr ⟨_, 0, rfl, o2.lt, fun j x h => by
    obtain ⟨rfl, rfl⟩ : j = 0 ∧ s = x := by
      cases j with
      | zero => simpa using h
      | succ j => simp at h
    exact o2.cellv 0⟩
  have hs := rsum_any _ [s] 1 W0 hp (by simp) (by simp) (by rw [hc1, tn_length]; exact hl)
  rw [hc1] at hs
  generalize Bl.sum (tn s) = D at *
  have HW0 := Lib.hid hW0
  clear hW0
  go_enter Tryd.func11, Tryd.ntmps11
  go_wp2_with fail
  change Calls _ _ _ ((w.alloc (Obj.cells (vs .u8 (List.replicate 32 0)) 24)).alloc (Obj.cells #[.string s] 9)) _
  rw [← HW0.out]
  refine hs.mono ?_
  rintro e w1 ⟨rfl, hx⟩
  have l1 := o1.lt
  have oR := Below.own hx o1 l1
  have hb := hb0.trans (hx.mono (by omega))
  go_wp2_with (refine sto t24 rfl rfl rfl rfl oR (by simp) lD ?_)
  exact ret_arr t24 rfl rfl (oR.row _) lD rfl ⟨rfl, below_row hb (Nat.le_refl _) _⟩
end Go.Proofs.YtaabefafafdndaaDoor
