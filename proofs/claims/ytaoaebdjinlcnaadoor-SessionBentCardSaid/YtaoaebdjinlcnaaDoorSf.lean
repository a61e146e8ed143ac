/-
  THE WALKS of seal's own small functions and of the document's: the tag and the keys.
-/
import Derived.Test.YtaoaebdjinlcnaaDoorSe
import Derived.Test.YtaoaebdjinlcnaaDoorKf
import Derived.RegionTactic
import Derived.BigRegion
set_option linter.unusedVariables false
set_option linter.unusedSimpArgs false
set_option maxRecDepth 100000
namespace Go.Proofs.YtaoaebdjinlcnaaDoor
open Go.RowKit
def sW : ByteArray := ⟨#[116, 97, 103]⟩
def sC : ByteArray := ⟨#[99, 105, 112, 104, 101, 114]⟩
theorem cat_W : cat [(⟨#[116, 97, 103]⟩ : ByteArray)] = wT := by decide
theorem cat_C : cat [(⟨#[99, 105, 112, 104, 101, 114]⟩ : ByteArray)] = wC := by decide
theorem cat_s (s : ByteArray) : cat [s] = tn s := by simp [cat]
theorem keyed_one {wr : World} {K : List Nat} {g : Nat} {x : ByteArray} (hK : Bl.By K) (lK : K.length = 32) (hT : Tab wr) (p : Pt wr g [x]) (hs : x.size ≤ 1000000) :
    Calls Tryd.prog 59 #[.agg (vs .u8 K), .slice (some ⟨g, 0, none⟩) 1 1] wr fun e w' => e = .returned (.agg (vs .u8 (Bl.keyed K (tn x)))) ∧ Below wr.heap.size wr w' := by
  have := keyed_any K _ [x] 1 wr hK lK hT p.pts (by simp) (Nat.le_refl _) (by rw [cat_s, tn_length]; omega)
  rw [cat_s] at this; exact this
theorem rkeyed_one {wr : World} {K : List Nat} {g : Nat} {x : ByteArray} (hK : Bl.By K) (lK : K.length = 32) (p : Pt wr g [x]) (hs : x.size ≤ 1000000) :
    Calls Tryd.prog 44 #[.agg (vs .u8 K), .slice (some ⟨g, 0, none⟩) 1 1] wr fun e w' => e = .returned (.agg (vs .u8 (Bl.keyed K (tn x)))) ∧ Below wr.heap.size wr w' := by
  have := rkeyed_any K _ [x] 1 wr hK lK p.pts (by simp) (Nat.le_refl _) (by rw [cat_s, tn_length]; omega)
  rw [cat_s] at this; exact this
theorem tn_T : tn ⟨#[116, 97, 103]⟩ = wT := by decide
theorem tn_C : tn ⟨#[99, 105, 112, 104, 101, 114]⟩ = wC := by decide
theorem sz_T : (⟨#[116, 97, 103]⟩ : ByteArray).size ≤ 1000000 := by show (3 : Nat) ≤ 1000000; omega
theorem sz_C : (⟨#[99, 105, 112, 104, 101, 114]⟩ : ByteArray).size ≤ 1000000 := by show (6 : Nat) ≤ 1000000; omega
theorem tN : ArrT 54 12 := ⟨⟨_, Tryd.underlying54⟩, by kernel_rfl⟩
set_option maxRecDepth 100000 in
set_option maxHeartbeats 1000000 in
theorem tag_any (K : List Nat) (h b : ByteArray) (w : World) (hK : Bl.By K) (lK : K.length = 32) (hT : Tab w) (hs : h.size + b.size ≤ 100000) :
    Calls Tryd.prog 48 #[.agg (vs .u8 K), .string h, .string b] w fun e w' => e = .returned (.agg (vs .u8 (tagD K h b))) ∧ Below w.heap.size w w' := by
  obtain ⟨V, hV⟩ : ∃ V, V = (w.alloc (Obj.cells (vs .u8 K) 24)).alloc (Obj.cells (vs .u8 (List.replicate 32 0)) 64) := ⟨_, rfl⟩
  have hb0 : Below w.heap.size w V := by rw [hV]; exact ((Below.refl _ w).alloc (Nat.le_refl _) _).alloc (by simp) _
  have o0 : Own V (w.heap.size + 1) 64 (vs .u8 (List.replicate 32 0)) := by rw [hV]; exact Own.new' _ _ _ (by simp)
  have z0 : V.heap.size = w.heap.size + 1 + 1 := by rw [hV]; simp
  have oK : Own ((w.alloc (Obj.cells (vs .u8 K) 24)).alloc (Obj.cells (vs .u8 (List.replicate 32 0)) 64)) w.heap.size 24 (vs .u8 K) := (Own.new _ _ _).alloc _
  have r1 := rowN_size h b (by omega)
  obtain ⟨T, hTe⟩ : ∃ T, T = Bl.keyed K wT := ⟨_, rfl⟩
  obtain ⟨R, hR⟩ : ∃ R, R = rowN h b := ⟨_, rfl⟩
  obtain ⟨D, hD⟩ : ∃ D, D = Bl.keyed T (tn R) := ⟨_, rfl⟩
  have lT : T.length = 32 := by rw [hTe]; exact keyed_len _ _
  have bT : Bl.By T := by rw [hTe]; exact keyed_by _ _
  have lD : D.length = 32 := by rw [hD]; exact keyed_len _ _
  rw [tagD, ← hTe, ← hR, ← hD]
  rw [← hR] at r1
  have HV := Lib.hid (And.intro hV (And.intro hTe (And.intro hR hD)))
  clear hV hTe hR hD
  go_enter Tryd.func48, Tryd.ntmps48
  go_wp2_with (refine ld t28 rfl rfl rfl oK lK ?_)
  change Calls _ _ _ (((w.alloc (Obj.cells (vs .u8 K) 24)).alloc (Obj.cells (vs .u8 (List.replicate 32 0)) 64)).alloc (Obj.cells #[.string ⟨#[116, 97, 103]⟩] 9)) _
  rw [← HV.out.1]
  clear oK
  have hb1 := grow V (Obj.cells #[.string ⟨#[116, 97, 103]⟩] 9)
  have p1 := Pt.new1 V ⟨#[116, 97, 103]⟩
  rw [z0] at p1
  generalize V.alloc (Obj.cells #[.string ⟨#[116, 97, 103]⟩] 9) = V1 at *
  have o1 := Below.own hb1 o0 o0.lt
  have b1 := hb0.trans (hb1.mono hb0.size)
  have s1 := hb1.size
  clear hb0 hb1 o0
  refine (keyed_one hK lK (hT.below b1) p1 sz_T).mono ?_
  rintro e w2 ⟨rfl, hx⟩
  replace o1 := Below.own hx o1 o1.lt
  replace b1 := b1.trans (hx.mono b1.size)
  have s2 := hx.size
  clear hx p1
  rw [tn_T, ← HV.out.2.1]
  go_wp2_with fail
  have hb2 := grow w2 (Obj.cells #[.string h, .string b] 9)
  have p2 := Pt.new2 w2 h b
  generalize w2.alloc (Obj.cells #[.string h, .string b] 9) = V2 at *
  replace o1 := Below.own hb2 o1 o1.lt
  replace b1 := b1.trans (hb2.mono b1.size)
  have s3 := hb2.size
  clear hb2
  generalize w2.heap.size = g2 at *
  refine (row_two g2 h b V2 (p2.c 0 h rfl) (p2.c 1 b rfl) (by omega)).mono ?_
  rintro e w3 ⟨rfl, hx⟩
  replace o1 := Below.own hx o1 o1.lt
  replace b1 := b1.trans (hx.mono b1.size)
  have s4 := hx.size
  clear hx p2
  rw [← HV.out.2.2.1]
  go_wp2_with fail
  have hb3 := grow w3 (Obj.cells #[.string R] 9)
  have p3 := Pt.new1 w3 R
  generalize w3.alloc (Obj.cells #[.string R] 9) = V3 at *
  replace o1 := Below.own hb3 o1 o1.lt
  replace b1 := b1.trans (hb3.mono b1.size)
  have s5 := hb3.size
  clear hb3
  generalize w3.heap.size = g3 at *
  refine (keyed_one bT lT (hT.below b1) p3 (by omega)).mono ?_
  rintro e w4 ⟨rfl, hx⟩
  replace o1 := Below.own hx o1 o1.lt
  replace b1 := b1.trans (hx.mono b1.size)
  clear hx p3
  rw [← HV.out.2.2.2]
  go_wp2_with (refine sto t24 rfl rfl rfl rfl o1 (by simp) lD ?_)
  exact ret_arr t24 rfl rfl (o1.row _) lD rfl ⟨rfl, below_row b1 (by omega) _⟩
set_option maxRecDepth 100000 in
set_option maxHeartbeats 1000000 in
theorem rof_any (K : List Nat) (s : ByteArray) (w : World) (hK : Bl.By K) (lK : K.length = 32) (hs : s.size ≤ 1000) :
    Calls Tryd.prog 56 #[.agg (vs .u8 K), .string s] w fun e w' => e = .returned (.agg (vs .u8 (Bl.keyed K (tn s)))) ∧ Below w.heap.size w w' := by
  obtain ⟨V, hV⟩ : ∃ V, V = (w.alloc (Obj.cells (vs .u8 K) 24)).alloc (Obj.cells (vs .u8 (List.replicate 32 0)) 24) := ⟨_, rfl⟩
  have hb0 : Below w.heap.size w V := by rw [hV]; exact ((Below.refl _ w).alloc (Nat.le_refl _) _).alloc (by simp) _
  have o0 : Own V (w.heap.size + 1) 24 (vs .u8 (List.replicate 32 0)) := by rw [hV]; exact Own.new' _ _ _ (by simp)
  have z0 : V.heap.size = w.heap.size + 1 + 1 := by rw [hV]; simp
  have oK : Own ((w.alloc (Obj.cells (vs .u8 K) 24)).alloc (Obj.cells (vs .u8 (List.replicate 32 0)) 24)) w.heap.size 24 (vs .u8 K) := (Own.new _ _ _).alloc _
  obtain ⟨D, hD⟩ : ∃ D, D = Bl.keyed K (tn s) := ⟨_, rfl⟩
  have lD : D.length = 32 := by rw [hD]; exact keyed_len _ _
  rw [← hD]
  have HV := Lib.hid (And.intro hV hD)
  clear hV hD
  go_enter Tryd.func56, Tryd.ntmps56
  go_wp2_with (refine ld t28 rfl rfl rfl oK lK ?_)
  change Calls _ _ _ (((w.alloc (Obj.cells (vs .u8 K) 24)).alloc (Obj.cells (vs .u8 (List.replicate 32 0)) 24)).alloc (Obj.cells #[.string s] 9)) _
  rw [← HV.out.1]
  clear oK
  have hb1 := grow V (Obj.cells #[.string s] 9)
  have p1 := Pt.new1 V s
  rw [z0] at p1
  generalize V.alloc (Obj.cells #[.string s] 9) = V1 at *
  have o1 := Below.own hb1 o0 o0.lt
  have b1 := hb0.trans (hb1.mono hb0.size)
  clear hb0 hb1 o0
  refine (rkeyed_one hK lK p1 (by omega)).mono ?_
  rintro e w2 ⟨rfl, hx⟩
  replace o1 := Below.own hx o1 o1.lt
  replace b1 := b1.trans (hx.mono b1.size)
  clear hx p1
  rw [← HV.out.2]
  go_wp2_with (refine sto t28 rfl rfl rfl rfl o1 (by simp) lD ?_)
  exact ret_arr t28 rfl rfl (o1.row _) lD rfl ⟨rfl, below_row b1 (by omega) _⟩
set_option maxRecDepth 100000 in
set_option maxHeartbeats 1000000 in
theorem rtag_any (K : List Nat) (h b : ByteArray) (w : World) (hK : Bl.By K) (lK : K.length = 32) (hs : h.size + b.size ≤ 100000) :
    Calls Tryd.prog 57 #[.agg (vs .u8 K), .string h, .string b] w fun e w' => e = .returned (.string (bs (tagD K h b))) ∧ Below w.heap.size w w' := by
  obtain ⟨V, hV⟩ : ∃ V, V = w.alloc (Obj.cells (vs .u8 K) 24) := ⟨_, rfl⟩
  have b1 : Below w.heap.size w V := by rw [hV]; exact grow _ _
  have oK : Own (w.alloc (Obj.cells (vs .u8 K) 24)) w.heap.size 24 (vs .u8 K) := Own.new _ _ _
  have r1 := rowN_size h b (by omega)
  obtain ⟨T, hTe⟩ : ∃ T, T = Bl.keyed K wT := ⟨_, rfl⟩
  obtain ⟨R, hR⟩ : ∃ R, R = rowN h b := ⟨_, rfl⟩
  obtain ⟨D, hD⟩ : ∃ D, D = Bl.keyed T (tn R) := ⟨_, rfl⟩
  have lT : T.length = 32 := by rw [hTe]; exact keyed_len _ _
  have bT : Bl.By T := by rw [hTe]; exact keyed_by _ _
  have lD : D.length = 32 := by rw [hD]; exact keyed_len _ _
  rw [tagD, ← hTe, ← hR, ← hD]
  rw [← hR] at r1
  have HV := Lib.hid (And.intro hV (And.intro hTe (And.intro hR hD)))
  clear hV hTe hR hD
  go_enter Tryd.func57, Tryd.ntmps57
  go_wp2_with (refine ld t28 rfl rfl rfl oK lK ?_)
  rw [← HV.out.1]
  clear oK
  refine (rof_any K ⟨#[116, 97, 103]⟩ V hK lK (by show (3 : Nat) ≤ 1000; omega)).mono ?_
  rintro e w2 ⟨rfl, hx⟩
  replace b1 := b1.trans (hx.mono b1.size)
  clear hx
  rw [tn_T, ← HV.out.2.1]
  go_wp2_with fail
  have hb2 := grow w2 (Obj.cells #[.string h, .string b] 9)
  have p2 := Pt.new2 w2 h b
  generalize w2.alloc (Obj.cells #[.string h, .string b] 9) = V2 at *
  replace b1 := b1.trans (hb2.mono b1.size)
  clear hb2
  generalize w2.heap.size = g2 at *
  refine (rrow_two g2 h b V2 (p2.c 0 h rfl) (p2.c 1 b rfl) (by omega)).mono ?_
  rintro e w3 ⟨rfl, hx⟩
  replace b1 := b1.trans (hx.mono b1.size)
  clear hx p2
  rw [← HV.out.2.2.1]
  go_wp2_with fail
  have hb3 := grow w3 (Obj.cells #[.string R] 9)
  have p3 := Pt.new1 w3 R
  generalize w3.alloc (Obj.cells #[.string R] 9) = V3 at *
  replace b1 := b1.trans (hb3.mono b1.size)
  clear hb3
  generalize w3.heap.size = g3 at *
  refine (rkeyed_one bT lT p3 (by omega)).mono ?_
  rintro e w4 ⟨rfl, hx⟩
  replace b1 := b1.trans (hx.mono b1.size)
  clear hx p3
  rw [← HV.out.2.2.2]
  have s4 := b1.size
  have oD := Own.new w4 64 (vs .u8 D)
  have b2 := b1.trans ((grow w4 (Obj.cells (vs .u8 D) 64)).mono b1.size)
  have cv := bs_conv _ _ _ D 32 lD oD
  go_wp2_with (refine sto_new (l := D) t24 rfl rfl rfl rfl rfl rfl lD ?_)
  go_ret
  exact ⟨rfl, b2⟩
/-- the key and the nonce lie in the call's first two blocks -/
structure Tn (w wr : World) (K N : List Nat) : Prop where
  k : Own wr w.heap.size 24 (vs .u8 K)
  n : Own wr (w.heap.size + 1) 54 (vs .u8 N)
  b : Below w.heap.size w wr
theorem Tn.below {w wr w1 : World} {K N : List Nat} (o : Tn w wr K N) (hx : Below wr.heap.size wr w1) : Tn w w1 K N := ⟨Below.own hx o.k o.k.lt, Below.own hx o.n o.n.lt, o.b.trans (hx.mono o.b.size)⟩
theorem Tn.drew {w wr : World} {K N : List Nat} (o : Tn w wr K N) : Tn w wr.drew K N := ⟨o.k, o.n, o.b.drew⟩
theorem Tn.new (w : World) (K N : List Nat) : Tn w ((w.alloc (Obj.cells (vs .u8 K) 24)).alloc (Obj.cells (vs .u8 N) 54)) K N :=
  ⟨(Own.new _ _ _).alloc _, Own.new' _ _ _ (by simp), ((Below.refl _ w).alloc (Nat.le_refl _) _).alloc (by simp) _⟩
set_option maxRecDepth 100000 in
set_option maxHeartbeats 1000000 in
theorem turn_any (K N : List Nat) (s : ByteArray) (w : World) (hK : Bl.By K) (hN : Bl.By N) (lK : K.length = 32) (lN : N.length = 12) (hT : Tab w) (hs : s.size ≤ 10000) :
    Calls Tryd.prog 47 #[.agg (vs .u8 K), .agg (vs .u8 N), .string s] w fun e w' => e = .returned (.string (strm K N s)) ∧ Below w.heap.size w w' := by
  obtain ⟨C, hC⟩ : ∃ C, C = Bl.keyed K wC := ⟨_, rfl⟩
  have lC : C.length = 32 := by rw [hC]; exact keyed_len _ _
  have bC : Bl.By C := by rw [hC]; exact keyed_by _ _
  have h17 : ∀ wr g, Tn w wr K N → Pt wr g [⟨#[99, 105, 112, 104, 101, 114]⟩] → Calls Tryd.prog 59 #[.agg (vs .u8 K), .slice (some ⟨g, 0, none⟩) 1 1] wr fun e w' => e = .returned (.agg (vs .u8 C)) ∧ Below wr.heap.size wr w' := fun wr g o p => by
    have := keyed_one hK lK (hT.below o.b) p sz_C
    rw [tn_C, ← hC] at this; exact this
  have h31 : ∀ wr, Calls Tryd.prog 65 #[.agg (vs .u8 C), .agg (vs .u8 N), .int .u32 1, .string s] wr fun e w' => e = .returned (.string (strm K N s)) ∧ Below wr.heap.size wr w' := fun wr => by
    have := xor_one C N s bC hN lC lN hs wr
    rw [strm, ← hC]; exact this
  have st := Tn.new w K N
  generalize strm K N s = D at *
  clear hC hT hs bC hK hN
  go_enter Tryd.func47, Tryd.ntmps47
  go_wp2_with fail
  change Code.wp _ _ _ _ ((w.alloc (Obj.cells (vs .u8 K) 24)).alloc (Obj.cells (vs .u8 N) 54))
  generalize (w.alloc (Obj.cells (vs .u8 K) 24)).alloc (Obj.cells (vs .u8 N) 54) = W0 at *
  refine wp_region_held_drew (S := fun w' => Tn w w' K N) (by kernel_rfl) st.drew (fun hHeld => ?_)
  clear st
  generalize W0.drew = W1 at *
  refine wpAnyH_take (i := 0) (oi := { dst := some 7, op := Op.load 24 (Operand.tmp 3), type := _, pos := _, after := _, guard := _ }) rfl (by kernel_rfl) (by kernel_rfl) (by kernel_rfl) (fun _ _ _ h => h) (yl t28 (by rfl) _ rfl _ rfl (fun w1 h => h.k) lK) hHeld ?_
  try simp only [Act.put, List.setIfInBounds_toArray, List.set_cons_zero, List.set_cons_succ]
  refine wpAnyH_take (i := 3) (oi := { dst := some 10, op := Op.load 54 (Operand.tmp 4), type := _, pos := _, after := _, guard := _ }) rfl (by kernel_rfl) (by kernel_rfl) (by kernel_rfl) (fun _ _ _ h => h) (yl tN (by rfl) _ rfl _ rfl (fun w1 h => h.n) lN) hHeld ?_
  try simp only [Act.put, List.setIfInBounds_toArray, List.set_cons_zero, List.set_cons_succ]
  refine wpAnyH_take (i := 4) (oi := { dst := some 11, op := Op.move (Operand.tmp 2), type := _, pos := _, after := _, guard := _ }) (v := ?_) rfl (by kernel_rfl) (by kernel_rfl) (by kernel_rfl) (fun _ _ _ h => h) (Or.inl ⟨by rfl, ?_⟩) hHeld ?_
  rotate_left
  · intro wq hSw
    go_simp
    rfl
  try simp only [Act.put, List.setIfInBounds_toArray, List.set_cons_zero, List.set_cons_succ]
  refine wpAnyH_ready (rs := [1]) (by kernel_rfl) (by simp) ?_
  refine AllReadyH.cons (o := { dst := some 8, op := Op.buildSlice 36 1 #[(0, Operand.const (Value.string { data := #[99, 105, 112, 104, 101, 114] }))], type := _, pos := _, after := _, guard := _ }) rfl (fun KK hKK => ?_) AllReadyH.nil
  have hKS := Lib.hid hKK
  clear hKK
  go_simp
  refine hKS.out.out _ _ (hHeld.below (grow _ _)) (fun hHeld => ?_)
  clear hKS KK
  have hx := grow W1 (Obj.cells #[.string ⟨#[99, 105, 112, 104, 101, 114]⟩] 9)
  have p1 := Pt.new1 W1 ⟨#[99, 105, 112, 104, 101, 114]⟩
  clear hx
  generalize World.alloc W1 (Obj.cells #[.string ⟨#[99, 105, 112, 104, 101, 114]⟩] 9) = v1 at *
  generalize World.heap W1 = h1 at *
  generalize h1.size = g1 at *
  try simp only [Act.put, List.setIfInBounds_toArray, List.set_cons_zero, List.set_cons_succ]
  refine wpAnyH_ready (rs := [2]) (by kernel_rfl) (by simp) ?_
  refine AllReadyH.cons (o := { dst := some 9, op := Op.call { callee := Callee.value (Operand.func 59), args := #[Operand.tmp 7, Operand.tmp 8], argTypes := #[24, 36] }, type := _, pos := _, after := _, guard := _ }) rfl (fun KK hKK => ?_) AllReadyH.nil
  have hKS := Lib.hid hKK
  clear hKK
  go_simp
  refine (h17 _ _ hHeld p1).mono ?_
  rintro e w2 ⟨rfl, hx⟩
  go_wp2_with fail
  try replace p1 := p1.below hx
  refine hKS.out.out _ _ (hHeld.below hx) (fun hHeld => ?_)
  clear hKS KK hx
  try simp only [Act.put, List.setIfInBounds_toArray, List.set_cons_zero, List.set_cons_succ]
  refine wpAnyH_ready (rs := [5]) (by kernel_rfl) (by simp) ?_
  refine AllReadyH.cons (o := { dst := some 12, op := Op.call { callee := Callee.value (Operand.func 65), args := #[Operand.tmp 9, Operand.tmp 10, Operand.const (Value.int IntKind.u32 1), Operand.tmp 11], argTypes := #[24, 54, 37, 9] }, type := _, pos := _, after := _, guard := _ }) rfl (fun KK hKK => ?_) AllReadyH.nil
  have hKS := Lib.hid hKK
  clear hKK
  go_simp
  refine (h31 _).mono ?_
  rintro e w5 ⟨rfl, hx⟩
  go_wp2_with fail
  try replace p1 := p1.below hx
  refine hKS.out.out _ _ (hHeld.below hx) (fun hHeld => ?_)
  clear hKS KK hx
  try simp only [Act.put, List.setIfInBounds_toArray, List.set_cons_zero, List.set_cons_succ]
  refine wpAnyH_take (i := 6) (oi := { dst := some 6, op := Op.assign (Operand.tmp 12), type := _, pos := _, after := _, guard := _ }) (v := ?_) rfl (by kernel_rfl) (by kernel_rfl) (by kernel_rfl) (fun _ _ _ h => h) (Or.inl ⟨by rfl, ?_⟩) hHeld ?_
  rotate_left
  · intro wq hSw
    go_simp
    rfl
  try simp only [Act.put, List.setIfInBounds_toArray, List.set_cons_zero, List.set_cons_succ]
  refine wpAnyH_done (by kernel_rfl) ?_ _
  go_wp2_with fail
  go_ret
  exact ⟨rfl, hHeld.b⟩
end Go.Proofs.YtaoaebdjinlcnaaDoor
