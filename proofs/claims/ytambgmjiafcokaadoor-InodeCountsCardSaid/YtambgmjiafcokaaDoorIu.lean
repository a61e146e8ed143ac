/-
  THE WALK of the document's bytes of an inode (Bytes).
-/
import Derived.Test.YtambgmjiafcokaaDoorIt
namespace Go.Proofs.YtambgmjiafcokaaDoor
set_option linter.unusedVariables false
set_option maxRecDepth 100000
set_option linter.unusedSimpArgs false
open Go.RowKit
namespace Dw
open _root_.Go.Proofs.YtambgmjiafcokaaDoor.Nm
/-- what the document's bytes are -/
def BytesIs (X : Nat → Int) (e : Ending) : Prop := ∃ U : ByteArray, e = .returned (.string U) ∧ U.size = 64 ∧ (toL U).take 24 = Ni.enc X 12
def bt (a b : Nat) : ByteArray := ⟨#[UInt8.ofNat a, UInt8.ofNat b]⟩
theorem toL_bt (a b : Nat) : toL (bt a b) = [UInt8.ofNat a, UInt8.ofNat b] := rfl
theorem conv_two (W : World) (g a b : Nat) (o : Nm.Own W g 5 #[.int .u8 (a : Int), .int .u8 (b : Int)]) : (convert 78 9 (.slice (some ⟨g, 0, none⟩) 2 2)).run Tryd.prog W = .ok (.string (bt a b)) W := by
  refine run_convert_bytes_arg W 78 5 Tryd.underlying78 Tryd.underlying5 g 0 2 2 [(a : Int), (b : Int)] rfl (fun i hi => ?_) 9 Tryd.underlying9
  rw [Nat.zero_add, o.cell i]
  match i, hi with
  | 0, _ => rfl
  | 1, _ => rfl
theorem putB_four (n : Nat) : Nu.putB n 4 = Nu.putB (n % 65536) 2 ++ Nu.putB (n / 65536) 2 := by
  have e1 : n % 65536 % 256 = n % 256 := by omega
  have e2 : n % 65536 / 256 % 256 = n / 256 % 256 := by omega
  have e3 : n / 65536 % 256 = n / 256 / 256 % 256 := by omega
  have e4 : n / 65536 / 256 % 256 = n / 256 / 256 / 256 % 256 := by omega
  show [UInt8.ofNat (n % 256), UInt8.ofNat (n / 256 % 256), UInt8.ofNat (n / 256 / 256 % 256), UInt8.ofNat (n / 256 / 256 / 256 % 256)] = [UInt8.ofNat (n % 65536 % 256), UInt8.ofNat (n % 65536 / 256 % 256)] ++ [UInt8.ofNat (n / 65536 % 256), UInt8.ofNat (n / 65536 / 256 % 256)]
  rw [e1, e2, e3, e4]
  rfl
theorem enc_four (X : Nat → Int) (v0 v1 v2 v3 : Nat) (h0 : X 0 = (v0 : Int)) (h1 : X 1 = (v1 : Int)) (h2 : X 2 = (v2 : Int)) (h3 : X 3 = (v3 : Int)) (l0 : v0 < 256) (l1 : v1 < 256) :
    toL (bt v0 v1 ++ ⟨(Nu.putB v2 2).toArray⟩ ++ ⟨(Nu.putB (v3 % 65536) 2).toArray⟩ ++ ⟨(Nu.putB (v3 / 65536) 2).toArray⟩) = Ni.enc X 4 := by
  have e : Ni.enc X 4 = ((([] ++ Nu.putB (X 0).toNat 1) ++ Nu.putB (X 1).toNat 1) ++ Nu.putB (X 2).toNat 2) ++ Nu.putB (X 3).toNat 4 := rfl
  rw [e, h0, h1, h2, h3, toL_app', toL_app', toL_app', toL_mk (Nu.putB v2 2), toL_mk (Nu.putB (v3 % 65536) 2), toL_mk (Nu.putB (v3 / 65536) 2), toL_bt]
  simp only [Int.toNat_natCast]
  rw [putB_four v3]
  show _ = ((([] ++ [UInt8.ofNat (v0 % 256)]) ++ [UInt8.ofNat (v1 % 256)]) ++ _) ++ _
  rw [Nat.mod_eq_of_lt l0, Nat.mod_eq_of_lt l1]
  simp [List.append_assoc]
theorem two_size (v : Nat) : (⟨(Nu.putB v 2).toArray⟩ : ByteArray).size = 2 := by rw [← toL_length, toL_mk (Nu.putB v 2), Nu.putB_length]
def szOf : Value → Nat
  | .string V => V.size
  | _ => 0
set_option maxHeartbeats 4000000 in
theorem rbytes_any (X : Nat → Int) (w : World) (hf : Ni.Fit X) : Calls Tryd.prog 33 #[.agg (ic X)] w fun e w' => BytesIs X e ∧ Below w.heap.size w w' := by
  obtain ⟨B, hB⟩ : ∃ B, w.heap.size = B := ⟨_, rfl⟩
  have nat := fun q (hq : q < 12) => Int.eq_ofNat_of_zero_le (hf q hq).1
  obtain ⟨v0, h0⟩ := nat 0 (by omega)
  obtain ⟨v1, h1⟩ := nat 1 (by omega)
  obtain ⟨v2, h2⟩ := nat 2 (by omega)
  obtain ⟨v3, h3⟩ := nat 3 (by omega)
  obtain ⟨v10, h10⟩ := nat 10 (by omega)
  obtain ⟨v11, h11⟩ := nat 11 (by omega)
  have l0 : v0 < 256 := by have : X 0 < 256 := (hf 0 (by omega)).2; omega
  have l1 : v1 < 256 := by have : X 1 < 256 := (hf 1 (by omega)).2; omega
  have l2 : v2 < 65536 := by have : X 2 < 65536 := (hf 2 (by omega)).2; omega
  have l3 : v3 < 4294967296 := by have : X 3 < 4294967296 := (hf 3 (by omega)).2; omega
  have l10 : v10 < 65536 := by have : X 10 < 65536 := (hf 10 (by omega)).2; omega
  have l11 : v11 < 65536 := by have : X 11 < 65536 := (hf 11 (by omega)).2; omega
  have l4 : ∀ k, k < 6 → ∃ v : Nat, X (4 + k) = (v : Int) ∧ v < 65536 := fun k hk => by
    obtain ⟨v, hv⟩ := nat (4 + k) (by omega)
    refine ⟨v, hv, ?_⟩
    have hs : Ni.sz (4 + k) = 2 := by unfold Ni.sz; rw [if_neg (by omega), if_neg (by omega)]
    have := (hf (4 + k) (by omega)).2
    rw [hs, show (256 : Nat) ^ 2 = 65536 from rfl] at this
    omega
  have HC : ∀ V, Nm.Own V B 27 (ic X) → V.cell? ⟨B, 0, none⟩ = some (.int .i64 (v0 : Int)) ∧ V.cell? ⟨B, 2, none⟩ = some (.int .i64 (v1 : Int)) ∧ V.cell? ⟨B, 1, none⟩ = some (.int .i64 (v2 : Int)) ∧ V.cell? ⟨B, 3, none⟩ = some (.int .i64 (v3 : Int)) ∧ V.cell? ⟨B, 10, none⟩ = some (.int .i64 (v10 : Int)) ∧ V.cell? ⟨B, 11, none⟩ = some (.int .i64 (v11 : Int)) := fun V o => by
    rw [← h0, ← h1, ← h2, ← h3, ← h10, ← h11]
    exact ⟨o.cell 0, o.cell 2, o.cell 1, o.cell 3, o.cell 10, o.cell 11⟩
  have HT := Lib.hid (enc_four X v0 v1 v2 v3 h0 h1 h2 h3 l0 l1)
  have ht2 := fun wr => two_any v2 wr l2
  have hta := fun wr => two_any (v3 % 65536) wr (by omega)
  have htb := fun wr => two_any (v3 / 65536) wr (by omega)
  have ht10 := fun wr => two_any v10 wr l10
  have ht11 := fun wr => two_any v11 wr l11
  have s2 := two_size v2
  have sa := two_size (v3 % 65536)
  have sb := two_size (v3 / 65536)
  have s10 := two_size v10
  have s11 := two_size v11
  have sbt : (bt v0 v1).size = 2 := rfl
  have HE := Lib.hid (show ∀ U : ByteArray, toL U = Ni.enc X 10 → toL (U ++ ⟨(Nu.putB v10 2).toArray⟩ ++ ⟨(Nu.putB v11 2).toArray⟩) = Ni.enc X 12 from fun U hU => by
    have e : Ni.enc X 12 = (Ni.enc X 10 ++ Nu.putB (X 10).toNat 2) ++ Nu.putB (X 11).toNat 2 := rfl
    rw [e, h10, h11, toL_app', toL_app', hU, toL_mk (Nu.putB v10 2), toL_mk (Nu.putB v11 2)]; rfl)
  generalize (⟨(Nu.putB v2 2).toArray⟩ : ByteArray) = P2 at *
  generalize (⟨(Nu.putB (v3 % 65536) 2).toArray⟩ : ByteArray) = Pa at *
  generalize (⟨(Nu.putB (v3 / 65536) 2).toArray⟩ : ByteArray) = Pb at *
  generalize (⟨(Nu.putB v10 2).toArray⟩ : ByteArray) = P10 at *
  generalize (⟨(Nu.putB v11 2).toArray⟩ : ByteArray) = P11 at *
  have u0 : IntKind.u8.wrap (v0 : Int) = (v0 : Int) := by rw [IntKind.wrap_u8]; omega
  have u1 : IntKind.u8.wrap (v1 : Int) = (v1 : Int) := by rw [IntKind.wrap_u8]; omega
  have m1 : (v3 : Int).tmod 65536 = ((v3 % 65536 : Nat) : Int) := rfl
  have m1' : (v3 : Int) % 65536 = ((v3 % 65536 : Nat) : Int) := rfl
  have m2 : (v3 : Int).tdiv 65536 = ((v3 / 65536 : Nat) : Int) := rfl
  have m2' : (v3 : Int) / 65536 = ((v3 / 65536 : Nat) : Int) := rfl
  have q1 : v3 % 65536 < 65536 := Nat.mod_lt _ (by omega)
  have q2 : v3 / 65536 < 65536 := by omega
  generalize v3 % 65536 = va at *
  generalize v3 / 65536 = vb at *
  have w1 : IntKind.i64.wrap (va : Int) = (va : Int) := IntWalk.i64_in _ (by omega)
  have w2 : IntKind.i64.wrap (vb : Int) = (vb : Int) := IntWalk.i64_in _ (by omega)
  have z1 : ¬ 9223372036854775807 < (bt v0 v1).size + P2.size := by omega
  have z2 : ¬ 9223372036854775807 < (bt v0 v1).size + P2.size + Pa.size := by omega
  have z3 : ¬ 9223372036854775807 < (bt v0 v1).size + P2.size + Pa.size + Pb.size := by omega
  have o0 := Nm.Own.new w 27 (ic X)
  have b0 := grow w (Obj.cells (ic X) 27)
  rw [hB] at o0 b0
  clear sbt s2 sa sb
  go_enter Tryd.func33, Tryd.ntmps33
  go_upto_region 1 with fail
  generalize w.alloc (Obj.cells (ic X) 27) = W0 at *
  go_cut [3] from 4 (fun s3 wc => ∃ U, s3 = .string U ∧ toL U = Ni.enc X 4 ∧ Nm.Own wc B 27 (ic X) ∧ Below B w wc)
  case first =>
    refine wp_region_held_drew (S := fun V => Nm.Own V B 27 (ic X) ∧ Below B w V) (by kernel_rfl) ⟨o0, b0.drew⟩ (fun hHeld => ?_)
    generalize W0.drew = V0 at *
    clear o0 b0
    refine wpAnyH_take (i := 0) (oi := { dst := some 5, op := Op.fieldAddr 27 (Operand.tmp 1) 0, type := _, pos := _, after := _, guard := _ }) (v := ?_) rfl (by kernel_rfl) (by kernel_rfl) (by kernel_rfl) (fun _ _ _ h => h) (Or.inl ⟨by rfl, ?_⟩) hHeld ?_
    rotate_left
    · intro wq hSw
      go_simp
      rfl
    try simp only [Act.put, List.setIfInBounds_toArray, List.set_cons_zero, List.set_cons_succ]
    refine wpAnyH_take (i := 1) (oi := { dst := some 6, op := Op.load 3 (Operand.tmp 5), type := _, pos := _, after := _, guard := _ }) (v := ?_) rfl (by kernel_rfl) (by kernel_rfl) (by kernel_rfl) (fun _ _ _ h => h) (Or.inl ⟨by rfl, ?_⟩) hHeld ?_
    rotate_left
    · intro wq hSw
      obtain ⟨d0, d1, d2, d3, d4, d5⟩ := HC wq hSw.1
      go_simp
      rfl
    try simp only [Act.put, List.setIfInBounds_toArray, List.set_cons_zero, List.set_cons_succ]
    refine wpAnyH_take (i := 2) (oi := { dst := some 7, op := Op.convert 3 5 (Operand.tmp 6), type := _, pos := _, after := _, guard := _ }) (v := ?_) rfl (by kernel_rfl) (by kernel_rfl) (by kernel_rfl) (fun _ _ _ h => h) (Or.inl ⟨by rfl, ?_⟩) hHeld ?_
    rotate_left
    · intro wq hSw
      go_simp
      rfl
    try simp only [Act.put, List.setIfInBounds_toArray, List.set_cons_zero, List.set_cons_succ]
    refine wpAnyH_take (i := 3) (oi := { dst := some 8, op := Op.fieldAddr 27 (Operand.tmp 1) 2, type := _, pos := _, after := _, guard := _ }) (v := ?_) rfl (by kernel_rfl) (by kernel_rfl) (by kernel_rfl) (fun _ _ _ h => h) (Or.inl ⟨by rfl, ?_⟩) hHeld ?_
    rotate_left
    · intro wq hSw
      go_simp
      rfl
    try simp only [Act.put, List.setIfInBounds_toArray, List.set_cons_zero, List.set_cons_succ]
    refine wpAnyH_take (i := 4) (oi := { dst := some 9, op := Op.load 3 (Operand.tmp 8), type := _, pos := _, after := _, guard := _ }) (v := ?_) rfl (by kernel_rfl) (by kernel_rfl) (by kernel_rfl) (fun _ _ _ h => h) (Or.inl ⟨by rfl, ?_⟩) hHeld ?_
    rotate_left
    · intro wq hSw
      obtain ⟨d0, d1, d2, d3, d4, d5⟩ := HC wq hSw.1
      go_simp
      rfl
    try simp only [Act.put, List.setIfInBounds_toArray, List.set_cons_zero, List.set_cons_succ]
    refine wpAnyH_take (i := 5) (oi := { dst := some 10, op := Op.convert 3 5 (Operand.tmp 9), type := _, pos := _, after := _, guard := _ }) (v := ?_) rfl (by kernel_rfl) (by kernel_rfl) (by kernel_rfl) (fun _ _ _ h => h) (Or.inl ⟨by rfl, ?_⟩) hHeld ?_
    rotate_left
    · intro wq hSw
      go_simp
      rfl
    try simp only [Act.put, List.setIfInBounds_toArray, List.set_cons_zero, List.set_cons_succ]
    refine wpAnyH_take (i := 8) (oi := { dst := some 13, op := Op.fieldAddr 27 (Operand.tmp 1) 1, type := _, pos := _, after := _, guard := _ }) (v := ?_) rfl (by kernel_rfl) (by kernel_rfl) (by kernel_rfl) (fun _ _ _ h => h) (Or.inl ⟨by rfl, ?_⟩) hHeld ?_
    rotate_left
    · intro wq hSw
      go_simp
      rfl
    try simp only [Act.put, List.setIfInBounds_toArray, List.set_cons_zero, List.set_cons_succ]
    refine wpAnyH_take (i := 9) (oi := { dst := some 14, op := Op.load 3 (Operand.tmp 13), type := _, pos := _, after := _, guard := _ }) (v := ?_) rfl (by kernel_rfl) (by kernel_rfl) (by kernel_rfl) (fun _ _ _ h => h) (Or.inl ⟨by rfl, ?_⟩) hHeld ?_
    rotate_left
    · intro wq hSw
      obtain ⟨d0, d1, d2, d3, d4, d5⟩ := HC wq hSw.1
      go_simp
      rfl
    try simp only [Act.put, List.setIfInBounds_toArray, List.set_cons_zero, List.set_cons_succ]
    refine wpAnyH_take (i := 12) (oi := { dst := some 17, op := Op.fieldAddr 27 (Operand.tmp 1) 3, type := _, pos := _, after := _, guard := _ }) (v := ?_) rfl (by kernel_rfl) (by kernel_rfl) (by kernel_rfl) (fun _ _ _ h => h) (Or.inl ⟨by rfl, ?_⟩) hHeld ?_
    rotate_left
    · intro wq hSw
      go_simp
      rfl
    try simp only [Act.put, List.setIfInBounds_toArray, List.set_cons_zero, List.set_cons_succ]
    refine wpAnyH_take (i := 13) (oi := { dst := some 18, op := Op.load 3 (Operand.tmp 17), type := _, pos := _, after := _, guard := _ }) (v := ?_) rfl (by kernel_rfl) (by kernel_rfl) (by kernel_rfl) (fun _ _ _ h => h) (Or.inl ⟨by rfl, ?_⟩) hHeld ?_
    rotate_left
    · intro wq hSw
      obtain ⟨d0, d1, d2, d3, d4, d5⟩ := HC wq hSw.1
      go_simp
      rfl
    try simp only [Act.put, List.setIfInBounds_toArray, List.set_cons_zero, List.set_cons_succ]
    refine wpAnyH_take (i := 14) (oi := { dst := some 19, op := Op.binOp BinOp.rem 3 (Operand.tmp 18) (Operand.const (Value.int IntKind.i64 65536)) 3, type := _, pos := _, after := _, guard := _ }) (v := ?_) rfl (by kernel_rfl) (by kernel_rfl) (by kernel_rfl) (fun _ _ _ h => h) (Or.inl ⟨by rfl, ?_⟩) hHeld ?_
    rotate_left
    · intro wq hSw
      go_simp
      rfl
    try simp only [Act.put, List.setIfInBounds_toArray, List.set_cons_zero, List.set_cons_succ]
    refine wpAnyH_take (i := 17) (oi := { dst := some 22, op := Op.fieldAddr 27 (Operand.tmp 1) 3, type := _, pos := _, after := _, guard := _ }) (v := ?_) rfl (by kernel_rfl) (by kernel_rfl) (by kernel_rfl) (fun _ _ _ h => h) (Or.inl ⟨by rfl, ?_⟩) hHeld ?_
    rotate_left
    · intro wq hSw
      go_simp
      rfl
    try simp only [Act.put, List.setIfInBounds_toArray, List.set_cons_zero, List.set_cons_succ]
    refine wpAnyH_take (i := 18) (oi := { dst := some 23, op := Op.load 3 (Operand.tmp 22), type := _, pos := _, after := _, guard := _ }) (v := ?_) rfl (by kernel_rfl) (by kernel_rfl) (by kernel_rfl) (fun _ _ _ h => h) (Or.inl ⟨by rfl, ?_⟩) hHeld ?_
    rotate_left
    · intro wq hSw
      obtain ⟨d0, d1, d2, d3, d4, d5⟩ := HC wq hSw.1
      go_simp
      rfl
    try simp only [Act.put, List.setIfInBounds_toArray, List.set_cons_zero, List.set_cons_succ]
    refine wpAnyH_take (i := 19) (oi := { dst := some 24, op := Op.binOp BinOp.quo 3 (Operand.tmp 23) (Operand.const (Value.int IntKind.i64 65536)) 3, type := _, pos := _, after := _, guard := _ }) (v := ?_) rfl (by kernel_rfl) (by kernel_rfl) (by kernel_rfl) (fun _ _ _ h => h) (Or.inl ⟨by rfl, ?_⟩) hHeld ?_
    rotate_left
    · intro wq hSw
      go_simp
      rfl
    try simp only [Act.put, List.setIfInBounds_toArray, List.set_cons_zero, List.set_cons_succ]
    refine wpAnyH_ready (rs := [6, 10]) (by kernel_rfl) (by simp) ?_
    refine AllReadyH.cons (o := { dst := some 11, op := Op.buildSlice 78 2 #[(0, Operand.tmp 7), (1, Operand.tmp 10)], type := _, pos := _, after := _, guard := _ }) rfl (fun KK hKK => ?_) ?_
    · have hKS := Lib.hid hKK
      clear hKK
      have og := Nm.Own.new V0 5 #[.int .u8 (v0 : Int), .int .u8 (v1 : Int)]
      have hx := grow V0 (Obj.cells #[.int .u8 (v0 : Int), .int .u8 (v1 : Int)] 5)
      go_simp
      have hH2 : Nm.Own (V0.alloc (Obj.cells #[.int .u8 (v0 : Int), .int .u8 (v1 : Int)] 5)) B 27 (ic X) ∧ Below B w (V0.alloc (Obj.cells #[.int .u8 (v0 : Int), .int .u8 (v1 : Int)] 5)) := ⟨hHeld.1.below hx, hHeld.2.trans (hx.mono (hB ▸ hHeld.2.size))⟩
      refine hKS.out.out _ (V0.alloc (Obj.cells #[.int .u8 (v0 : Int), .int .u8 (v1 : Int)] 5)) hH2 (fun hHeld => ?_)
      clear hKS KK hx hH2
      generalize World.alloc V0 (Obj.cells #[.int .u8 (v0 : Int), .int .u8 (v1 : Int)] 5) = V6 at *
      generalize V0.heap.size = g at *
      try simp only [Act.put, List.setIfInBounds_toArray, List.set_cons_zero, List.set_cons_succ]
      refine wpAnyH_ready (rs := [7, 10]) (by kernel_rfl) (by simp) ?_
      refine AllReadyH.cons (o := { dst := some 12, op := Op.convert 78 9 (Operand.tmp 11), type := _, pos := _, after := _, guard := _ }) rfl (fun KK hKK => ?_) ?_
      · have hKS := Lib.hid hKK
        clear hKK
        have cv := conv_two V6 g v0 v1 og
        go_simp
        refine hKS.out.out _ _ hHeld (fun hHeld => ?_)
        clear hKS KK cv og
        try simp only [Act.put, List.setIfInBounds_toArray, List.set_cons_zero, List.set_cons_succ]
        refine wpAnyH_ready (rs := [10]) (by kernel_rfl) (by simp) ?_
        refine AllReadyH.cons (o := { dst := some 15, op := Op.call { callee := Callee.value (Operand.func 49), args := #[Operand.tmp 14], argTypes := #[3] }, type := _, pos := _, after := _, guard := _ }) rfl (fun KK hKK => ?_) AllReadyH.nil
        have hKS := Lib.hid hKK
        clear hKK
        go_simp
        refine (ht2 _).mono ?_
        rintro e w10 ⟨rfl, hx⟩
        go_wp2_with fail
        try replace og := og.below hx
        have hH2 : Nm.Own w10 B 27 (ic X) ∧ Below B w w10 := ⟨hHeld.1.below hx, hHeld.2.trans (hx.mono (hB ▸ hHeld.2.size))⟩
        refine hKS.out.out _ _ hH2 (fun hHeld => ?_)
        clear hKS KK hx hH2
        try simp only [Act.put, List.setIfInBounds_toArray, List.set_cons_zero, List.set_cons_succ]
        refine wpAnyH_take (i := 11) (oi := { dst := some 16, op := Op.binOp BinOp.add 9 (Operand.tmp 12) (Operand.tmp 15) 9, type := _, pos := _, after := _, guard := _ }) (v := ?_) rfl (by kernel_rfl) (by kernel_rfl) (by kernel_rfl) (fun _ _ _ h => h) (Or.inl ⟨by rfl, ?_⟩) hHeld ?_
        rotate_left
        · intro wq hSw
          go_simp
          rfl
        try simp only [Act.put, List.setIfInBounds_toArray, List.set_cons_zero, List.set_cons_succ]
        refine wpAnyH_ready (rs := [15]) (by kernel_rfl) (by simp) ?_
        refine AllReadyH.cons (o := { dst := some 20, op := Op.call { callee := Callee.value (Operand.func 49), args := #[Operand.tmp 19], argTypes := #[3] }, type := _, pos := _, after := _, guard := _ }) rfl (fun KK hKK => ?_) AllReadyH.nil
        have hKS := Lib.hid hKK
        clear hKK
        go_simp
        refine (hta _).mono ?_
        rintro e w15 ⟨rfl, hx⟩
        go_wp2_with fail
        try replace og := og.below hx
        have hH2 : Nm.Own w15 B 27 (ic X) ∧ Below B w w15 := ⟨hHeld.1.below hx, hHeld.2.trans (hx.mono (hB ▸ hHeld.2.size))⟩
        refine hKS.out.out _ _ hH2 (fun hHeld => ?_)
        clear hKS KK hx hH2
        try simp only [Act.put, List.setIfInBounds_toArray, List.set_cons_zero, List.set_cons_succ]
        refine wpAnyH_take (i := 16) (oi := { dst := some 21, op := Op.binOp BinOp.add 9 (Operand.tmp 16) (Operand.tmp 20) 9, type := _, pos := _, after := _, guard := _ }) (v := ?_) rfl (by kernel_rfl) (by kernel_rfl) (by kernel_rfl) (fun _ _ _ h => h) (Or.inl ⟨by rfl, ?_⟩) hHeld ?_
        rotate_left
        · intro wq hSw
          go_simp
          rfl
        try simp only [Act.put, List.setIfInBounds_toArray, List.set_cons_zero, List.set_cons_succ]
        refine wpAnyH_ready (rs := [20]) (by kernel_rfl) (by simp) ?_
        refine AllReadyH.cons (o := { dst := some 25, op := Op.call { callee := Callee.value (Operand.func 49), args := #[Operand.tmp 24], argTypes := #[3] }, type := _, pos := _, after := _, guard := _ }) rfl (fun KK hKK => ?_) AllReadyH.nil
        have hKS := Lib.hid hKK
        clear hKK
        go_simp
        refine (htb _).mono ?_
        rintro e w20 ⟨rfl, hx⟩
        go_wp2_with fail
        try replace og := og.below hx
        have hH2 : Nm.Own w20 B 27 (ic X) ∧ Below B w w20 := ⟨hHeld.1.below hx, hHeld.2.trans (hx.mono (hB ▸ hHeld.2.size))⟩
        refine hKS.out.out _ _ hH2 (fun hHeld => ?_)
        clear hKS KK hx hH2
        try simp only [Act.put, List.setIfInBounds_toArray, List.set_cons_zero, List.set_cons_succ]
        refine wpAnyH_take (i := 21) (oi := { dst := some 26, op := Op.binOp BinOp.add 9 (Operand.tmp 21) (Operand.tmp 25) 9, type := _, pos := _, after := _, guard := _ }) (v := ?_) rfl (by kernel_rfl) (by kernel_rfl) (by kernel_rfl) (fun _ _ _ h => h) (Or.inl ⟨by rfl, ?_⟩) hHeld ?_
        rotate_left
        · intro wq hSw
          go_simp
          rfl
        try simp only [Act.put, List.setIfInBounds_toArray, List.set_cons_zero, List.set_cons_succ]
        refine wpAnyH_take (i := 22) (oi := { dst := some 3, op := Op.assign (Operand.tmp 26), type := _, pos := _, after := _, guard := _ }) (v := ?_) rfl (by kernel_rfl) (by kernel_rfl) (by kernel_rfl) (fun _ _ _ h => h) (Or.inl ⟨by rfl, ?_⟩) hHeld ?_
        rotate_left
        · intro wq hSw
          go_simp
          rfl
        try simp only [Act.put, List.setIfInBounds_toArray, List.set_cons_zero, List.set_cons_succ]
        refine wpAnyH_done (by kernel_rfl) ?_ _
        go_wp2_with fail
        go_meet
        case rel => exact ⟨_, rfl, HT.out, hHeld.1, hHeld.2⟩
      refine AllReadyH.cons (o := { dst := some 15, op := Op.call { callee := Callee.value (Operand.func 49), args := #[Operand.tmp 14], argTypes := #[3] }, type := _, pos := _, after := _, guard := _ }) rfl (fun KK hKK => ?_) AllReadyH.nil
      · have hKS := Lib.hid hKK
        clear hKK
        go_simp
        refine (ht2 _).mono ?_
        rintro e w10 ⟨rfl, hx⟩
        go_wp2_with fail
        try replace og := og.below hx
        have hH2 : Nm.Own w10 B 27 (ic X) ∧ Below B w w10 := ⟨hHeld.1.below hx, hHeld.2.trans (hx.mono (hB ▸ hHeld.2.size))⟩
        refine hKS.out.out _ _ hH2 (fun hHeld => ?_)
        clear hKS KK hx hH2
        try simp only [Act.put, List.setIfInBounds_toArray, List.set_cons_zero, List.set_cons_succ]
        refine wpAnyH_ready (rs := [7, 15]) (by kernel_rfl) (by simp) ?_
        refine AllReadyH.cons (o := { dst := some 12, op := Op.convert 78 9 (Operand.tmp 11), type := _, pos := _, after := _, guard := _ }) rfl (fun KK hKK => ?_) ?_
        · have hKS := Lib.hid hKK
          clear hKK
          have cv := conv_two w10 g v0 v1 og
          go_simp
          refine hKS.out.out _ _ hHeld (fun hHeld => ?_)
          clear hKS KK cv og
          try simp only [Act.put, List.setIfInBounds_toArray, List.set_cons_zero, List.set_cons_succ]
          refine wpAnyH_take (i := 11) (oi := { dst := some 16, op := Op.binOp BinOp.add 9 (Operand.tmp 12) (Operand.tmp 15) 9, type := _, pos := _, after := _, guard := _ }) (v := ?_) rfl (by kernel_rfl) (by kernel_rfl) (by kernel_rfl) (fun _ _ _ h => h) (Or.inl ⟨by rfl, ?_⟩) hHeld ?_
          rotate_left
          · intro wq hSw
            go_simp
            rfl
          try simp only [Act.put, List.setIfInBounds_toArray, List.set_cons_zero, List.set_cons_succ]
          refine wpAnyH_ready (rs := [15]) (by kernel_rfl) (by simp) ?_
          refine AllReadyH.cons (o := { dst := some 20, op := Op.call { callee := Callee.value (Operand.func 49), args := #[Operand.tmp 19], argTypes := #[3] }, type := _, pos := _, after := _, guard := _ }) rfl (fun KK hKK => ?_) AllReadyH.nil
          have hKS := Lib.hid hKK
          clear hKK
          go_simp
          refine (hta _).mono ?_
          rintro e w15 ⟨rfl, hx⟩
          go_wp2_with fail
          try replace og := og.below hx
          have hH2 : Nm.Own w15 B 27 (ic X) ∧ Below B w w15 := ⟨hHeld.1.below hx, hHeld.2.trans (hx.mono (hB ▸ hHeld.2.size))⟩
          refine hKS.out.out _ _ hH2 (fun hHeld => ?_)
          clear hKS KK hx hH2
          try simp only [Act.put, List.setIfInBounds_toArray, List.set_cons_zero, List.set_cons_succ]
          refine wpAnyH_take (i := 16) (oi := { dst := some 21, op := Op.binOp BinOp.add 9 (Operand.tmp 16) (Operand.tmp 20) 9, type := _, pos := _, after := _, guard := _ }) (v := ?_) rfl (by kernel_rfl) (by kernel_rfl) (by kernel_rfl) (fun _ _ _ h => h) (Or.inl ⟨by rfl, ?_⟩) hHeld ?_
          rotate_left
          · intro wq hSw
            go_simp
            rfl
          try simp only [Act.put, List.setIfInBounds_toArray, List.set_cons_zero, List.set_cons_succ]
          refine wpAnyH_ready (rs := [20]) (by kernel_rfl) (by simp) ?_
          refine AllReadyH.cons (o := { dst := some 25, op := Op.call { callee := Callee.value (Operand.func 49), args := #[Operand.tmp 24], argTypes := #[3] }, type := _, pos := _, after := _, guard := _ }) rfl (fun KK hKK => ?_) AllReadyH.nil
          have hKS := Lib.hid hKK
          clear hKK
          go_simp
          refine (htb _).mono ?_
          rintro e w20 ⟨rfl, hx⟩
          go_wp2_with fail
          try replace og := og.below hx
          have hH2 : Nm.Own w20 B 27 (ic X) ∧ Below B w w20 := ⟨hHeld.1.below hx, hHeld.2.trans (hx.mono (hB ▸ hHeld.2.size))⟩
          refine hKS.out.out _ _ hH2 (fun hHeld => ?_)
          clear hKS KK hx hH2
          try simp only [Act.put, List.setIfInBounds_toArray, List.set_cons_zero, List.set_cons_succ]
          refine wpAnyH_take (i := 21) (oi := { dst := some 26, op := Op.binOp BinOp.add 9 (Operand.tmp 21) (Operand.tmp 25) 9, type := _, pos := _, after := _, guard := _ }) (v := ?_) rfl (by kernel_rfl) (by kernel_rfl) (by kernel_rfl) (fun _ _ _ h => h) (Or.inl ⟨by rfl, ?_⟩) hHeld ?_
          rotate_left
          · intro wq hSw
            go_simp
            rfl
          try simp only [Act.put, List.setIfInBounds_toArray, List.set_cons_zero, List.set_cons_succ]
          refine wpAnyH_take (i := 22) (oi := { dst := some 3, op := Op.assign (Operand.tmp 26), type := _, pos := _, after := _, guard := _ }) (v := ?_) rfl (by kernel_rfl) (by kernel_rfl) (by kernel_rfl) (fun _ _ _ h => h) (Or.inl ⟨by rfl, ?_⟩) hHeld ?_
          rotate_left
          · intro wq hSw
            go_simp
            rfl
          try simp only [Act.put, List.setIfInBounds_toArray, List.set_cons_zero, List.set_cons_succ]
          refine wpAnyH_done (by kernel_rfl) ?_ _
          go_wp2_with fail
          go_meet
          case rel => exact ⟨_, rfl, HT.out, hHeld.1, hHeld.2⟩
        refine AllReadyH.cons (o := { dst := some 20, op := Op.call { callee := Callee.value (Operand.func 49), args := #[Operand.tmp 19], argTypes := #[3] }, type := _, pos := _, after := _, guard := _ }) rfl (fun KK hKK => ?_) AllReadyH.nil
        · have hKS := Lib.hid hKK
          clear hKK
          go_simp
          refine (hta _).mono ?_
          rintro e w15 ⟨rfl, hx⟩
          go_wp2_with fail
          try replace og := og.below hx
          have hH2 : Nm.Own w15 B 27 (ic X) ∧ Below B w w15 := ⟨hHeld.1.below hx, hHeld.2.trans (hx.mono (hB ▸ hHeld.2.size))⟩
          refine hKS.out.out _ _ hH2 (fun hHeld => ?_)
          clear hKS KK hx hH2
          try simp only [Act.put, List.setIfInBounds_toArray, List.set_cons_zero, List.set_cons_succ]
          refine wpAnyH_ready (rs := [7, 20]) (by kernel_rfl) (by simp) ?_
          refine AllReadyH.cons (o := { dst := some 12, op := Op.convert 78 9 (Operand.tmp 11), type := _, pos := _, after := _, guard := _ }) rfl (fun KK hKK => ?_) ?_
          · have hKS := Lib.hid hKK
            clear hKK
            have cv := conv_two w15 g v0 v1 og
            go_simp
            refine hKS.out.out _ _ hHeld (fun hHeld => ?_)
            clear hKS KK cv og
            try simp only [Act.put, List.setIfInBounds_toArray, List.set_cons_zero, List.set_cons_succ]
            refine wpAnyH_take (i := 11) (oi := { dst := some 16, op := Op.binOp BinOp.add 9 (Operand.tmp 12) (Operand.tmp 15) 9, type := _, pos := _, after := _, guard := _ }) (v := ?_) rfl (by kernel_rfl) (by kernel_rfl) (by kernel_rfl) (fun _ _ _ h => h) (Or.inl ⟨by rfl, ?_⟩) hHeld ?_
            rotate_left
            · intro wq hSw
              go_simp
              rfl
            try simp only [Act.put, List.setIfInBounds_toArray, List.set_cons_zero, List.set_cons_succ]
            refine wpAnyH_take (i := 16) (oi := { dst := some 21, op := Op.binOp BinOp.add 9 (Operand.tmp 16) (Operand.tmp 20) 9, type := _, pos := _, after := _, guard := _ }) (v := ?_) rfl (by kernel_rfl) (by kernel_rfl) (by kernel_rfl) (fun _ _ _ h => h) (Or.inl ⟨by rfl, ?_⟩) hHeld ?_
            rotate_left
            · intro wq hSw
              go_simp
              rfl
            try simp only [Act.put, List.setIfInBounds_toArray, List.set_cons_zero, List.set_cons_succ]
            refine wpAnyH_ready (rs := [20]) (by kernel_rfl) (by simp) ?_
            refine AllReadyH.cons (o := { dst := some 25, op := Op.call { callee := Callee.value (Operand.func 49), args := #[Operand.tmp 24], argTypes := #[3] }, type := _, pos := _, after := _, guard := _ }) rfl (fun KK hKK => ?_) AllReadyH.nil
            have hKS := Lib.hid hKK
            clear hKK
            go_simp
            refine (htb _).mono ?_
            rintro e w20 ⟨rfl, hx⟩
            go_wp2_with fail
            try replace og := og.below hx
            have hH2 : Nm.Own w20 B 27 (ic X) ∧ Below B w w20 := ⟨hHeld.1.below hx, hHeld.2.trans (hx.mono (hB ▸ hHeld.2.size))⟩
            refine hKS.out.out _ _ hH2 (fun hHeld => ?_)
            clear hKS KK hx hH2
            try simp only [Act.put, List.setIfInBounds_toArray, List.set_cons_zero, List.set_cons_succ]
            refine wpAnyH_take (i := 21) (oi := { dst := some 26, op := Op.binOp BinOp.add 9 (Operand.tmp 21) (Operand.tmp 25) 9, type := _, pos := _, after := _, guard := _ }) (v := ?_) rfl (by kernel_rfl) (by kernel_rfl) (by kernel_rfl) (fun _ _ _ h => h) (Or.inl ⟨by rfl, ?_⟩) hHeld ?_
            rotate_left
            · intro wq hSw
              go_simp
              rfl
            try simp only [Act.put, List.setIfInBounds_toArray, List.set_cons_zero, List.set_cons_succ]
            refine wpAnyH_take (i := 22) (oi := { dst := some 3, op := Op.assign (Operand.tmp 26), type := _, pos := _, after := _, guard := _ }) (v := ?_) rfl (by kernel_rfl) (by kernel_rfl) (by kernel_rfl) (fun _ _ _ h => h) (Or.inl ⟨by rfl, ?_⟩) hHeld ?_
            rotate_left
            · intro wq hSw
              go_simp
              rfl
            try simp only [Act.put, List.setIfInBounds_toArray, List.set_cons_zero, List.set_cons_succ]
            refine wpAnyH_done (by kernel_rfl) ?_ _
            go_wp2_with fail
            go_meet
            case rel => exact ⟨_, rfl, HT.out, hHeld.1, hHeld.2⟩
          refine AllReadyH.cons (o := { dst := some 25, op := Op.call { callee := Callee.value (Operand.func 49), args := #[Operand.tmp 24], argTypes := #[3] }, type := _, pos := _, after := _, guard := _ }) rfl (fun KK hKK => ?_) AllReadyH.nil
          · have hKS := Lib.hid hKK
            clear hKK
            go_simp
            refine (htb _).mono ?_
            rintro e w20 ⟨rfl, hx⟩
            go_wp2_with fail
            try replace og := og.below hx
            have hH2 : Nm.Own w20 B 27 (ic X) ∧ Below B w w20 := ⟨hHeld.1.below hx, hHeld.2.trans (hx.mono (hB ▸ hHeld.2.size))⟩
            refine hKS.out.out _ _ hH2 (fun hHeld => ?_)
            clear hKS KK hx hH2
            try simp only [Act.put, List.setIfInBounds_toArray, List.set_cons_zero, List.set_cons_succ]
            refine wpAnyH_ready (rs := [7]) (by kernel_rfl) (by simp) ?_
            refine AllReadyH.cons (o := { dst := some 12, op := Op.convert 78 9 (Operand.tmp 11), type := _, pos := _, after := _, guard := _ }) rfl (fun KK hKK => ?_) AllReadyH.nil
            have hKS := Lib.hid hKK
            clear hKK
            have cv := conv_two w20 g v0 v1 og
            go_simp
            refine hKS.out.out _ _ hHeld (fun hHeld => ?_)
            clear hKS KK cv og
            try simp only [Act.put, List.setIfInBounds_toArray, List.set_cons_zero, List.set_cons_succ]
            refine wpAnyH_take (i := 11) (oi := { dst := some 16, op := Op.binOp BinOp.add 9 (Operand.tmp 12) (Operand.tmp 15) 9, type := _, pos := _, after := _, guard := _ }) (v := ?_) rfl (by kernel_rfl) (by kernel_rfl) (by kernel_rfl) (fun _ _ _ h => h) (Or.inl ⟨by rfl, ?_⟩) hHeld ?_
            rotate_left
            · intro wq hSw
              go_simp
              rfl
            try simp only [Act.put, List.setIfInBounds_toArray, List.set_cons_zero, List.set_cons_succ]
            refine wpAnyH_take (i := 16) (oi := { dst := some 21, op := Op.binOp BinOp.add 9 (Operand.tmp 16) (Operand.tmp 20) 9, type := _, pos := _, after := _, guard := _ }) (v := ?_) rfl (by kernel_rfl) (by kernel_rfl) (by kernel_rfl) (fun _ _ _ h => h) (Or.inl ⟨by rfl, ?_⟩) hHeld ?_
            rotate_left
            · intro wq hSw
              go_simp
              rfl
            try simp only [Act.put, List.setIfInBounds_toArray, List.set_cons_zero, List.set_cons_succ]
            refine wpAnyH_take (i := 21) (oi := { dst := some 26, op := Op.binOp BinOp.add 9 (Operand.tmp 21) (Operand.tmp 25) 9, type := _, pos := _, after := _, guard := _ }) (v := ?_) rfl (by kernel_rfl) (by kernel_rfl) (by kernel_rfl) (fun _ _ _ h => h) (Or.inl ⟨by rfl, ?_⟩) hHeld ?_
            rotate_left
            · intro wq hSw
              go_simp
              rfl
            try simp only [Act.put, List.setIfInBounds_toArray, List.set_cons_zero, List.set_cons_succ]
            refine wpAnyH_take (i := 22) (oi := { dst := some 3, op := Op.assign (Operand.tmp 26), type := _, pos := _, after := _, guard := _ }) (v := ?_) rfl (by kernel_rfl) (by kernel_rfl) (by kernel_rfl) (fun _ _ _ h => h) (Or.inl ⟨by rfl, ?_⟩) hHeld ?_
            rotate_left
            · intro wq hSw
              go_simp
              rfl
            try simp only [Act.put, List.setIfInBounds_toArray, List.set_cons_zero, List.set_cons_succ]
            refine wpAnyH_done (by kernel_rfl) ?_ _
            go_wp2_with fail
            go_meet
            case rel => exact ⟨_, rfl, HT.out, hHeld.1, hHeld.2⟩
    refine AllReadyH.cons (o := { dst := some 15, op := Op.call { callee := Callee.value (Operand.func 49), args := #[Operand.tmp 14], argTypes := #[3] }, type := _, pos := _, after := _, guard := _ }) rfl (fun KK hKK => ?_) AllReadyH.nil
    · have hKS := Lib.hid hKK
      clear hKK
      go_simp
      refine (ht2 _).mono ?_
      rintro e w10 ⟨rfl, hx⟩
      go_wp2_with fail
      try replace og := og.below hx
      have hH2 : Nm.Own w10 B 27 (ic X) ∧ Below B w w10 := ⟨hHeld.1.below hx, hHeld.2.trans (hx.mono (hB ▸ hHeld.2.size))⟩
      refine hKS.out.out _ _ hH2 (fun hHeld => ?_)
      clear hKS KK hx hH2
      try simp only [Act.put, List.setIfInBounds_toArray, List.set_cons_zero, List.set_cons_succ]
      refine wpAnyH_ready (rs := [6, 15]) (by kernel_rfl) (by simp) ?_
      refine AllReadyH.cons (o := { dst := some 11, op := Op.buildSlice 78 2 #[(0, Operand.tmp 7), (1, Operand.tmp 10)], type := _, pos := _, after := _, guard := _ }) rfl (fun KK hKK => ?_) ?_
      · have hKS := Lib.hid hKK
        clear hKK
        have og := Nm.Own.new w10 5 #[.int .u8 (v0 : Int), .int .u8 (v1 : Int)]
        have hx := grow w10 (Obj.cells #[.int .u8 (v0 : Int), .int .u8 (v1 : Int)] 5)
        go_simp
        have hH2 : Nm.Own (w10.alloc (Obj.cells #[.int .u8 (v0 : Int), .int .u8 (v1 : Int)] 5)) B 27 (ic X) ∧ Below B w (w10.alloc (Obj.cells #[.int .u8 (v0 : Int), .int .u8 (v1 : Int)] 5)) := ⟨hHeld.1.below hx, hHeld.2.trans (hx.mono (hB ▸ hHeld.2.size))⟩
        refine hKS.out.out _ (w10.alloc (Obj.cells #[.int .u8 (v0 : Int), .int .u8 (v1 : Int)] 5)) hH2 (fun hHeld => ?_)
        clear hKS KK hx hH2
        generalize World.alloc w10 (Obj.cells #[.int .u8 (v0 : Int), .int .u8 (v1 : Int)] 5) = V6 at *
        generalize w10.heap.size = g at *
        try simp only [Act.put, List.setIfInBounds_toArray, List.set_cons_zero, List.set_cons_succ]
        refine wpAnyH_ready (rs := [7, 15]) (by kernel_rfl) (by simp) ?_
        refine AllReadyH.cons (o := { dst := some 12, op := Op.convert 78 9 (Operand.tmp 11), type := _, pos := _, after := _, guard := _ }) rfl (fun KK hKK => ?_) ?_
        · have hKS := Lib.hid hKK
          clear hKK
          have cv := conv_two V6 g v0 v1 og
          go_simp
          refine hKS.out.out _ _ hHeld (fun hHeld => ?_)
          clear hKS KK cv og
          try simp only [Act.put, List.setIfInBounds_toArray, List.set_cons_zero, List.set_cons_succ]
          refine wpAnyH_take (i := 11) (oi := { dst := some 16, op := Op.binOp BinOp.add 9 (Operand.tmp 12) (Operand.tmp 15) 9, type := _, pos := _, after := _, guard := _ }) (v := ?_) rfl (by kernel_rfl) (by kernel_rfl) (by kernel_rfl) (fun _ _ _ h => h) (Or.inl ⟨by rfl, ?_⟩) hHeld ?_
          rotate_left
          · intro wq hSw
            go_simp
            rfl
          try simp only [Act.put, List.setIfInBounds_toArray, List.set_cons_zero, List.set_cons_succ]
          refine wpAnyH_ready (rs := [15]) (by kernel_rfl) (by simp) ?_
          refine AllReadyH.cons (o := { dst := some 20, op := Op.call { callee := Callee.value (Operand.func 49), args := #[Operand.tmp 19], argTypes := #[3] }, type := _, pos := _, after := _, guard := _ }) rfl (fun KK hKK => ?_) AllReadyH.nil
          have hKS := Lib.hid hKK
          clear hKK
          go_simp
          refine (hta _).mono ?_
          rintro e w15 ⟨rfl, hx⟩
          go_wp2_with fail
          try replace og := og.below hx
          have hH2 : Nm.Own w15 B 27 (ic X) ∧ Below B w w15 := ⟨hHeld.1.below hx, hHeld.2.trans (hx.mono (hB ▸ hHeld.2.size))⟩
          refine hKS.out.out _ _ hH2 (fun hHeld => ?_)
          clear hKS KK hx hH2
          try simp only [Act.put, List.setIfInBounds_toArray, List.set_cons_zero, List.set_cons_succ]
          refine wpAnyH_take (i := 16) (oi := { dst := some 21, op := Op.binOp BinOp.add 9 (Operand.tmp 16) (Operand.tmp 20) 9, type := _, pos := _, after := _, guard := _ }) (v := ?_) rfl (by kernel_rfl) (by kernel_rfl) (by kernel_rfl) (fun _ _ _ h => h) (Or.inl ⟨by rfl, ?_⟩) hHeld ?_
          rotate_left
          · intro wq hSw
            go_simp
            rfl
          try simp only [Act.put, List.setIfInBounds_toArray, List.set_cons_zero, List.set_cons_succ]
          refine wpAnyH_ready (rs := [20]) (by kernel_rfl) (by simp) ?_
          refine AllReadyH.cons (o := { dst := some 25, op := Op.call { callee := Callee.value (Operand.func 49), args := #[Operand.tmp 24], argTypes := #[3] }, type := _, pos := _, after := _, guard := _ }) rfl (fun KK hKK => ?_) AllReadyH.nil
          have hKS := Lib.hid hKK
          clear hKK
          go_simp
          refine (htb _).mono ?_
          rintro e w20 ⟨rfl, hx⟩
          go_wp2_with fail
          try replace og := og.below hx
          have hH2 : Nm.Own w20 B 27 (ic X) ∧ Below B w w20 := ⟨hHeld.1.below hx, hHeld.2.trans (hx.mono (hB ▸ hHeld.2.size))⟩
          refine hKS.out.out _ _ hH2 (fun hHeld => ?_)
          clear hKS KK hx hH2
          try simp only [Act.put, List.setIfInBounds_toArray, List.set_cons_zero, List.set_cons_succ]
          refine wpAnyH_take (i := 21) (oi := { dst := some 26, op := Op.binOp BinOp.add 9 (Operand.tmp 21) (Operand.tmp 25) 9, type := _, pos := _, after := _, guard := _ }) (v := ?_) rfl (by kernel_rfl) (by kernel_rfl) (by kernel_rfl) (fun _ _ _ h => h) (Or.inl ⟨by rfl, ?_⟩) hHeld ?_
          rotate_left
          · intro wq hSw
            go_simp
            rfl
          try simp only [Act.put, List.setIfInBounds_toArray, List.set_cons_zero, List.set_cons_succ]
          refine wpAnyH_take (i := 22) (oi := { dst := some 3, op := Op.assign (Operand.tmp 26), type := _, pos := _, after := _, guard := _ }) (v := ?_) rfl (by kernel_rfl) (by kernel_rfl) (by kernel_rfl) (fun _ _ _ h => h) (Or.inl ⟨by rfl, ?_⟩) hHeld ?_
          rotate_left
          · intro wq hSw
            go_simp
            rfl
          try simp only [Act.put, List.setIfInBounds_toArray, List.set_cons_zero, List.set_cons_succ]
          refine wpAnyH_done (by kernel_rfl) ?_ _
          go_wp2_with fail
          go_meet
          case rel => exact ⟨_, rfl, HT.out, hHeld.1, hHeld.2⟩
        refine AllReadyH.cons (o := { dst := some 20, op := Op.call { callee := Callee.value (Operand.func 49), args := #[Operand.tmp 19], argTypes := #[3] }, type := _, pos := _, after := _, guard := _ }) rfl (fun KK hKK => ?_) AllReadyH.nil
        · have hKS := Lib.hid hKK
          clear hKK
          go_simp
          refine (hta _).mono ?_
          rintro e w15 ⟨rfl, hx⟩
          go_wp2_with fail
          try replace og := og.below hx
          have hH2 : Nm.Own w15 B 27 (ic X) ∧ Below B w w15 := ⟨hHeld.1.below hx, hHeld.2.trans (hx.mono (hB ▸ hHeld.2.size))⟩
          refine hKS.out.out _ _ hH2 (fun hHeld => ?_)
          clear hKS KK hx hH2
          try simp only [Act.put, List.setIfInBounds_toArray, List.set_cons_zero, List.set_cons_succ]
          refine wpAnyH_ready (rs := [7, 20]) (by kernel_rfl) (by simp) ?_
          refine AllReadyH.cons (o := { dst := some 12, op := Op.convert 78 9 (Operand.tmp 11), type := _, pos := _, after := _, guard := _ }) rfl (fun KK hKK => ?_) ?_
          · have hKS := Lib.hid hKK
            clear hKK
            have cv := conv_two w15 g v0 v1 og
            go_simp
            refine hKS.out.out _ _ hHeld (fun hHeld => ?_)
            clear hKS KK cv og
            try simp only [Act.put, List.setIfInBounds_toArray, List.set_cons_zero, List.set_cons_succ]
            refine wpAnyH_take (i := 11) (oi := { dst := some 16, op := Op.binOp BinOp.add 9 (Operand.tmp 12) (Operand.tmp 15) 9, type := _, pos := _, after := _, guard := _ }) (v := ?_) rfl (by kernel_rfl) (by kernel_rfl) (by kernel_rfl) (fun _ _ _ h => h) (Or.inl ⟨by rfl, ?_⟩) hHeld ?_
            rotate_left
            · intro wq hSw
              go_simp
              rfl
            try simp only [Act.put, List.setIfInBounds_toArray, List.set_cons_zero, List.set_cons_succ]
            refine wpAnyH_take (i := 16) (oi := { dst := some 21, op := Op.binOp BinOp.add 9 (Operand.tmp 16) (Operand.tmp 20) 9, type := _, pos := _, after := _, guard := _ }) (v := ?_) rfl (by kernel_rfl) (by kernel_rfl) (by kernel_rfl) (fun _ _ _ h => h) (Or.inl ⟨by rfl, ?_⟩) hHeld ?_
            rotate_left
            · intro wq hSw
              go_simp
              rfl
            try simp only [Act.put, List.setIfInBounds_toArray, List.set_cons_zero, List.set_cons_succ]
            refine wpAnyH_ready (rs := [20]) (by kernel_rfl) (by simp) ?_
            refine AllReadyH.cons (o := { dst := some 25, op := Op.call { callee := Callee.value (Operand.func 49), args := #[Operand.tmp 24], argTypes := #[3] }, type := _, pos := _, after := _, guard := _ }) rfl (fun KK hKK => ?_) AllReadyH.nil
            have hKS := Lib.hid hKK
            clear hKK
            go_simp
            refine (htb _).mono ?_
            rintro e w20 ⟨rfl, hx⟩
            go_wp2_with fail
            try replace og := og.below hx
            have hH2 : Nm.Own w20 B 27 (ic X) ∧ Below B w w20 := ⟨hHeld.1.below hx, hHeld.2.trans (hx.mono (hB ▸ hHeld.2.size))⟩
            refine hKS.out.out _ _ hH2 (fun hHeld => ?_)
            clear hKS KK hx hH2
            try simp only [Act.put, List.setIfInBounds_toArray, List.set_cons_zero, List.set_cons_succ]
            refine wpAnyH_take (i := 21) (oi := { dst := some 26, op := Op.binOp BinOp.add 9 (Operand.tmp 21) (Operand.tmp 25) 9, type := _, pos := _, after := _, guard := _ }) (v := ?_) rfl (by kernel_rfl) (by kernel_rfl) (by kernel_rfl) (fun _ _ _ h => h) (Or.inl ⟨by rfl, ?_⟩) hHeld ?_
            rotate_left
            · intro wq hSw
              go_simp
              rfl
            try simp only [Act.put, List.setIfInBounds_toArray, List.set_cons_zero, List.set_cons_succ]
            refine wpAnyH_take (i := 22) (oi := { dst := some 3, op := Op.assign (Operand.tmp 26), type := _, pos := _, after := _, guard := _ }) (v := ?_) rfl (by kernel_rfl) (by kernel_rfl) (by kernel_rfl) (fun _ _ _ h => h) (Or.inl ⟨by rfl, ?_⟩) hHeld ?_
            rotate_left
            · intro wq hSw
              go_simp
              rfl
            try simp only [Act.put, List.setIfInBounds_toArray, List.set_cons_zero, List.set_cons_succ]
            refine wpAnyH_done (by kernel_rfl) ?_ _
            go_wp2_with fail
            go_meet
            case rel => exact ⟨_, rfl, HT.out, hHeld.1, hHeld.2⟩
          refine AllReadyH.cons (o := { dst := some 25, op := Op.call { callee := Callee.value (Operand.func 49), args := #[Operand.tmp 24], argTypes := #[3] }, type := _, pos := _, after := _, guard := _ }) rfl (fun KK hKK => ?_) AllReadyH.nil
          · have hKS := Lib.hid hKK
            clear hKK
            go_simp
            refine (htb _).mono ?_
            rintro e w20 ⟨rfl, hx⟩
            go_wp2_with fail
            try replace og := og.below hx
            have hH2 : Nm.Own w20 B 27 (ic X) ∧ Below B w w20 := ⟨hHeld.1.below hx, hHeld.2.trans (hx.mono (hB ▸ hHeld.2.size))⟩
            refine hKS.out.out _ _ hH2 (fun hHeld => ?_)
            clear hKS KK hx hH2
            try simp only [Act.put, List.setIfInBounds_toArray, List.set_cons_zero, List.set_cons_succ]
            refine wpAnyH_ready (rs := [7]) (by kernel_rfl) (by simp) ?_
            refine AllReadyH.cons (o := { dst := some 12, op := Op.convert 78 9 (Operand.tmp 11), type := _, pos := _, after := _, guard := _ }) rfl (fun KK hKK => ?_) AllReadyH.nil
            have hKS := Lib.hid hKK
            clear hKK
            have cv := conv_two w20 g v0 v1 og
            go_simp
            refine hKS.out.out _ _ hHeld (fun hHeld => ?_)
            clear hKS KK cv og
            try simp only [Act.put, List.setIfInBounds_toArray, List.set_cons_zero, List.set_cons_succ]
            refine wpAnyH_take (i := 11) (oi := { dst := some 16, op := Op.binOp BinOp.add 9 (Operand.tmp 12) (Operand.tmp 15) 9, type := _, pos := _, after := _, guard := _ }) (v := ?_) rfl (by kernel_rfl) (by kernel_rfl) (by kernel_rfl) (fun _ _ _ h => h) (Or.inl ⟨by rfl, ?_⟩) hHeld ?_
            rotate_left
            · intro wq hSw
              go_simp
              rfl
            try simp only [Act.put, List.setIfInBounds_toArray, List.set_cons_zero, List.set_cons_succ]
            refine wpAnyH_take (i := 16) (oi := { dst := some 21, op := Op.binOp BinOp.add 9 (Operand.tmp 16) (Operand.tmp 20) 9, type := _, pos := _, after := _, guard := _ }) (v := ?_) rfl (by kernel_rfl) (by kernel_rfl) (by kernel_rfl) (fun _ _ _ h => h) (Or.inl ⟨by rfl, ?_⟩) hHeld ?_
            rotate_left
            · intro wq hSw
              go_simp
              rfl
            try simp only [Act.put, List.setIfInBounds_toArray, List.set_cons_zero, List.set_cons_succ]
            refine wpAnyH_take (i := 21) (oi := { dst := some 26, op := Op.binOp BinOp.add 9 (Operand.tmp 21) (Operand.tmp 25) 9, type := _, pos := _, after := _, guard := _ }) (v := ?_) rfl (by kernel_rfl) (by kernel_rfl) (by kernel_rfl) (fun _ _ _ h => h) (Or.inl ⟨by rfl, ?_⟩) hHeld ?_
            rotate_left
            · intro wq hSw
              go_simp
              rfl
            try simp only [Act.put, List.setIfInBounds_toArray, List.set_cons_zero, List.set_cons_succ]
            refine wpAnyH_take (i := 22) (oi := { dst := some 3, op := Op.assign (Operand.tmp 26), type := _, pos := _, after := _, guard := _ }) (v := ?_) rfl (by kernel_rfl) (by kernel_rfl) (by kernel_rfl) (fun _ _ _ h => h) (Or.inl ⟨by rfl, ?_⟩) hHeld ?_
            rotate_left
            · intro wq hSw
              go_simp
              rfl
            try simp only [Act.put, List.setIfInBounds_toArray, List.set_cons_zero, List.set_cons_succ]
            refine wpAnyH_done (by kernel_rfl) ?_ _
            go_wp2_with fail
            go_meet
            case rel => exact ⟨_, rfl, HT.out, hHeld.1, hHeld.2⟩
      refine AllReadyH.cons (o := { dst := some 20, op := Op.call { callee := Callee.value (Operand.func 49), args := #[Operand.tmp 19], argTypes := #[3] }, type := _, pos := _, after := _, guard := _ }) rfl (fun KK hKK => ?_) AllReadyH.nil
      · have hKS := Lib.hid hKK
        clear hKK
        go_simp
        refine (hta _).mono ?_
        rintro e w15 ⟨rfl, hx⟩
        go_wp2_with fail
        try replace og := og.below hx
        have hH2 : Nm.Own w15 B 27 (ic X) ∧ Below B w w15 := ⟨hHeld.1.below hx, hHeld.2.trans (hx.mono (hB ▸ hHeld.2.size))⟩
        refine hKS.out.out _ _ hH2 (fun hHeld => ?_)
        clear hKS KK hx hH2
        try simp only [Act.put, List.setIfInBounds_toArray, List.set_cons_zero, List.set_cons_succ]
        refine wpAnyH_ready (rs := [6, 20]) (by kernel_rfl) (by simp) ?_
        refine AllReadyH.cons (o := { dst := some 11, op := Op.buildSlice 78 2 #[(0, Operand.tmp 7), (1, Operand.tmp 10)], type := _, pos := _, after := _, guard := _ }) rfl (fun KK hKK => ?_) ?_
        · have hKS := Lib.hid hKK
          clear hKK
          have og := Nm.Own.new w15 5 #[.int .u8 (v0 : Int), .int .u8 (v1 : Int)]
          have hx := grow w15 (Obj.cells #[.int .u8 (v0 : Int), .int .u8 (v1 : Int)] 5)
          go_simp
          have hH2 : Nm.Own (w15.alloc (Obj.cells #[.int .u8 (v0 : Int), .int .u8 (v1 : Int)] 5)) B 27 (ic X) ∧ Below B w (w15.alloc (Obj.cells #[.int .u8 (v0 : Int), .int .u8 (v1 : Int)] 5)) := ⟨hHeld.1.below hx, hHeld.2.trans (hx.mono (hB ▸ hHeld.2.size))⟩
          refine hKS.out.out _ (w15.alloc (Obj.cells #[.int .u8 (v0 : Int), .int .u8 (v1 : Int)] 5)) hH2 (fun hHeld => ?_)
          clear hKS KK hx hH2
          generalize World.alloc w15 (Obj.cells #[.int .u8 (v0 : Int), .int .u8 (v1 : Int)] 5) = V6 at *
          generalize w15.heap.size = g at *
          try simp only [Act.put, List.setIfInBounds_toArray, List.set_cons_zero, List.set_cons_succ]
          refine wpAnyH_ready (rs := [7, 20]) (by kernel_rfl) (by simp) ?_
          refine AllReadyH.cons (o := { dst := some 12, op := Op.convert 78 9 (Operand.tmp 11), type := _, pos := _, after := _, guard := _ }) rfl (fun KK hKK => ?_) ?_
          · have hKS := Lib.hid hKK
            clear hKK
            have cv := conv_two V6 g v0 v1 og
            go_simp
            refine hKS.out.out _ _ hHeld (fun hHeld => ?_)
            clear hKS KK cv og
            try simp only [Act.put, List.setIfInBounds_toArray, List.set_cons_zero, List.set_cons_succ]
            refine wpAnyH_take (i := 11) (oi := { dst := some 16, op := Op.binOp BinOp.add 9 (Operand.tmp 12) (Operand.tmp 15) 9, type := _, pos := _, after := _, guard := _ }) (v := ?_) rfl (by kernel_rfl) (by kernel_rfl) (by kernel_rfl) (fun _ _ _ h => h) (Or.inl ⟨by rfl, ?_⟩) hHeld ?_
            rotate_left
            · intro wq hSw
              go_simp
              rfl
            try simp only [Act.put, List.setIfInBounds_toArray, List.set_cons_zero, List.set_cons_succ]
            refine wpAnyH_take (i := 16) (oi := { dst := some 21, op := Op.binOp BinOp.add 9 (Operand.tmp 16) (Operand.tmp 20) 9, type := _, pos := _, after := _, guard := _ }) (v := ?_) rfl (by kernel_rfl) (by kernel_rfl) (by kernel_rfl) (fun _ _ _ h => h) (Or.inl ⟨by rfl, ?_⟩) hHeld ?_
            rotate_left
            · intro wq hSw
              go_simp
              rfl
            try simp only [Act.put, List.setIfInBounds_toArray, List.set_cons_zero, List.set_cons_succ]
            refine wpAnyH_ready (rs := [20]) (by kernel_rfl) (by simp) ?_
            refine AllReadyH.cons (o := { dst := some 25, op := Op.call { callee := Callee.value (Operand.func 49), args := #[Operand.tmp 24], argTypes := #[3] }, type := _, pos := _, after := _, guard := _ }) rfl (fun KK hKK => ?_) AllReadyH.nil
            have hKS := Lib.hid hKK
            clear hKK
            go_simp
            refine (htb _).mono ?_
            rintro e w20 ⟨rfl, hx⟩
            go_wp2_with fail
            try replace og := og.below hx
            have hH2 : Nm.Own w20 B 27 (ic X) ∧ Below B w w20 := ⟨hHeld.1.below hx, hHeld.2.trans (hx.mono (hB ▸ hHeld.2.size))⟩
            refine hKS.out.out _ _ hH2 (fun hHeld => ?_)
            clear hKS KK hx hH2
            try simp only [Act.put, List.setIfInBounds_toArray, List.set_cons_zero, List.set_cons_succ]
            refine wpAnyH_take (i := 21) (oi := { dst := some 26, op := Op.binOp BinOp.add 9 (Operand.tmp 21) (Operand.tmp 25) 9, type := _, pos := _, after := _, guard := _ }) (v := ?_) rfl (by kernel_rfl) (by kernel_rfl) (by kernel_rfl) (fun _ _ _ h => h) (Or.inl ⟨by rfl, ?_⟩) hHeld ?_
            rotate_left
            · intro wq hSw
              go_simp
              rfl
            try simp only [Act.put, List.setIfInBounds_toArray, List.set_cons_zero, List.set_cons_succ]
            refine wpAnyH_take (i := 22) (oi := { dst := some 3, op := Op.assign (Operand.tmp 26), type := _, pos := _, after := _, guard := _ }) (v := ?_) rfl (by kernel_rfl) (by kernel_rfl) (by kernel_rfl) (fun _ _ _ h => h) (Or.inl ⟨by rfl, ?_⟩) hHeld ?_
            rotate_left
            · intro wq hSw
              go_simp
              rfl
            try simp only [Act.put, List.setIfInBounds_toArray, List.set_cons_zero, List.set_cons_succ]
            refine wpAnyH_done (by kernel_rfl) ?_ _
            go_wp2_with fail
            go_meet
            case rel => exact ⟨_, rfl, HT.out, hHeld.1, hHeld.2⟩
          refine AllReadyH.cons (o := { dst := some 25, op := Op.call { callee := Callee.value (Operand.func 49), args := #[Operand.tmp 24], argTypes := #[3] }, type := _, pos := _, after := _, guard := _ }) rfl (fun KK hKK => ?_) AllReadyH.nil
          · have hKS := Lib.hid hKK
            clear hKK
            go_simp
            refine (htb _).mono ?_
            rintro e w20 ⟨rfl, hx⟩
            go_wp2_with fail
            try replace og := og.below hx
            have hH2 : Nm.Own w20 B 27 (ic X) ∧ Below B w w20 := ⟨hHeld.1.below hx, hHeld.2.trans (hx.mono (hB ▸ hHeld.2.size))⟩
            refine hKS.out.out _ _ hH2 (fun hHeld => ?_)
            clear hKS KK hx hH2
            try simp only [Act.put, List.setIfInBounds_toArray, List.set_cons_zero, List.set_cons_succ]
            refine wpAnyH_ready (rs := [7]) (by kernel_rfl) (by simp) ?_
            refine AllReadyH.cons (o := { dst := some 12, op := Op.convert 78 9 (Operand.tmp 11), type := _, pos := _, after := _, guard := _ }) rfl (fun KK hKK => ?_) AllReadyH.nil
            have hKS := Lib.hid hKK
            clear hKK
            have cv := conv_two w20 g v0 v1 og
            go_simp
            refine hKS.out.out _ _ hHeld (fun hHeld => ?_)
            clear hKS KK cv og
            try simp only [Act.put, List.setIfInBounds_toArray, List.set_cons_zero, List.set_cons_succ]
            refine wpAnyH_take (i := 11) (oi := { dst := some 16, op := Op.binOp BinOp.add 9 (Operand.tmp 12) (Operand.tmp 15) 9, type := _, pos := _, after := _, guard := _ }) (v := ?_) rfl (by kernel_rfl) (by kernel_rfl) (by kernel_rfl) (fun _ _ _ h => h) (Or.inl ⟨by rfl, ?_⟩) hHeld ?_
            rotate_left
            · intro wq hSw
              go_simp
              rfl
            try simp only [Act.put, List.setIfInBounds_toArray, List.set_cons_zero, List.set_cons_succ]
            refine wpAnyH_take (i := 16) (oi := { dst := some 21, op := Op.binOp BinOp.add 9 (Operand.tmp 16) (Operand.tmp 20) 9, type := _, pos := _, after := _, guard := _ }) (v := ?_) rfl (by kernel_rfl) (by kernel_rfl) (by kernel_rfl) (fun _ _ _ h => h) (Or.inl ⟨by rfl, ?_⟩) hHeld ?_
            rotate_left
            · intro wq hSw
              go_simp
              rfl
            try simp only [Act.put, List.setIfInBounds_toArray, List.set_cons_zero, List.set_cons_succ]
            refine wpAnyH_take (i := 21) (oi := { dst := some 26, op := Op.binOp BinOp.add 9 (Operand.tmp 21) (Operand.tmp 25) 9, type := _, pos := _, after := _, guard := _ }) (v := ?_) rfl (by kernel_rfl) (by kernel_rfl) (by kernel_rfl) (fun _ _ _ h => h) (Or.inl ⟨by rfl, ?_⟩) hHeld ?_
            rotate_left
            · intro wq hSw
              go_simp
              rfl
            try simp only [Act.put, List.setIfInBounds_toArray, List.set_cons_zero, List.set_cons_succ]
            refine wpAnyH_take (i := 22) (oi := { dst := some 3, op := Op.assign (Operand.tmp 26), type := _, pos := _, after := _, guard := _ }) (v := ?_) rfl (by kernel_rfl) (by kernel_rfl) (by kernel_rfl) (fun _ _ _ h => h) (Or.inl ⟨by rfl, ?_⟩) hHeld ?_
            rotate_left
            · intro wq hSw
              go_simp
              rfl
            try simp only [Act.put, List.setIfInBounds_toArray, List.set_cons_zero, List.set_cons_succ]
            refine wpAnyH_done (by kernel_rfl) ?_ _
            go_wp2_with fail
            go_meet
            case rel => exact ⟨_, rfl, HT.out, hHeld.1, hHeld.2⟩
        refine AllReadyH.cons (o := { dst := some 25, op := Op.call { callee := Callee.value (Operand.func 49), args := #[Operand.tmp 24], argTypes := #[3] }, type := _, pos := _, after := _, guard := _ }) rfl (fun KK hKK => ?_) AllReadyH.nil
        · have hKS := Lib.hid hKK
          clear hKK
          go_simp
          refine (htb _).mono ?_
          rintro e w20 ⟨rfl, hx⟩
          go_wp2_with fail
          try replace og := og.below hx
          have hH2 : Nm.Own w20 B 27 (ic X) ∧ Below B w w20 := ⟨hHeld.1.below hx, hHeld.2.trans (hx.mono (hB ▸ hHeld.2.size))⟩
          refine hKS.out.out _ _ hH2 (fun hHeld => ?_)
          clear hKS KK hx hH2
          try simp only [Act.put, List.setIfInBounds_toArray, List.set_cons_zero, List.set_cons_succ]
          refine wpAnyH_ready (rs := [6]) (by kernel_rfl) (by simp) ?_
          refine AllReadyH.cons (o := { dst := some 11, op := Op.buildSlice 78 2 #[(0, Operand.tmp 7), (1, Operand.tmp 10)], type := _, pos := _, after := _, guard := _ }) rfl (fun KK hKK => ?_) AllReadyH.nil
          have hKS := Lib.hid hKK
          clear hKK
          have og := Nm.Own.new w20 5 #[.int .u8 (v0 : Int), .int .u8 (v1 : Int)]
          have hx := grow w20 (Obj.cells #[.int .u8 (v0 : Int), .int .u8 (v1 : Int)] 5)
          go_simp
          have hH2 : Nm.Own (w20.alloc (Obj.cells #[.int .u8 (v0 : Int), .int .u8 (v1 : Int)] 5)) B 27 (ic X) ∧ Below B w (w20.alloc (Obj.cells #[.int .u8 (v0 : Int), .int .u8 (v1 : Int)] 5)) := ⟨hHeld.1.below hx, hHeld.2.trans (hx.mono (hB ▸ hHeld.2.size))⟩
          refine hKS.out.out _ (w20.alloc (Obj.cells #[.int .u8 (v0 : Int), .int .u8 (v1 : Int)] 5)) hH2 (fun hHeld => ?_)
          clear hKS KK hx hH2
          generalize World.alloc w20 (Obj.cells #[.int .u8 (v0 : Int), .int .u8 (v1 : Int)] 5) = V6 at *
          generalize w20.heap.size = g at *
          try simp only [Act.put, List.setIfInBounds_toArray, List.set_cons_zero, List.set_cons_succ]
          refine wpAnyH_ready (rs := [7]) (by kernel_rfl) (by simp) ?_
          refine AllReadyH.cons (o := { dst := some 12, op := Op.convert 78 9 (Operand.tmp 11), type := _, pos := _, after := _, guard := _ }) rfl (fun KK hKK => ?_) AllReadyH.nil
          have hKS := Lib.hid hKK
          clear hKK
          have cv := conv_two V6 g v0 v1 og
          go_simp
          refine hKS.out.out _ _ hHeld (fun hHeld => ?_)
          clear hKS KK cv og
          try simp only [Act.put, List.setIfInBounds_toArray, List.set_cons_zero, List.set_cons_succ]
          refine wpAnyH_take (i := 11) (oi := { dst := some 16, op := Op.binOp BinOp.add 9 (Operand.tmp 12) (Operand.tmp 15) 9, type := _, pos := _, after := _, guard := _ }) (v := ?_) rfl (by kernel_rfl) (by kernel_rfl) (by kernel_rfl) (fun _ _ _ h => h) (Or.inl ⟨by rfl, ?_⟩) hHeld ?_
          rotate_left
          · intro wq hSw
            go_simp
            rfl
          try simp only [Act.put, List.setIfInBounds_toArray, List.set_cons_zero, List.set_cons_succ]
          refine wpAnyH_take (i := 16) (oi := { dst := some 21, op := Op.binOp BinOp.add 9 (Operand.tmp 16) (Operand.tmp 20) 9, type := _, pos := _, after := _, guard := _ }) (v := ?_) rfl (by kernel_rfl) (by kernel_rfl) (by kernel_rfl) (fun _ _ _ h => h) (Or.inl ⟨by rfl, ?_⟩) hHeld ?_
          rotate_left
          · intro wq hSw
            go_simp
            rfl
          try simp only [Act.put, List.setIfInBounds_toArray, List.set_cons_zero, List.set_cons_succ]
          refine wpAnyH_take (i := 21) (oi := { dst := some 26, op := Op.binOp BinOp.add 9 (Operand.tmp 21) (Operand.tmp 25) 9, type := _, pos := _, after := _, guard := _ }) (v := ?_) rfl (by kernel_rfl) (by kernel_rfl) (by kernel_rfl) (fun _ _ _ h => h) (Or.inl ⟨by rfl, ?_⟩) hHeld ?_
          rotate_left
          · intro wq hSw
            go_simp
            rfl
          try simp only [Act.put, List.setIfInBounds_toArray, List.set_cons_zero, List.set_cons_succ]
          refine wpAnyH_take (i := 22) (oi := { dst := some 3, op := Op.assign (Operand.tmp 26), type := _, pos := _, after := _, guard := _ }) (v := ?_) rfl (by kernel_rfl) (by kernel_rfl) (by kernel_rfl) (fun _ _ _ h => h) (Or.inl ⟨by rfl, ?_⟩) hHeld ?_
          rotate_left
          · intro wq hSw
            go_simp
            rfl
          try simp only [Act.put, List.setIfInBounds_toArray, List.set_cons_zero, List.set_cons_succ]
          refine wpAnyH_done (by kernel_rfl) ?_ _
          go_wp2_with fail
          go_meet
          case rel => exact ⟨_, rfl, HT.out, hHeld.1, hHeld.2⟩
  case rest =>
    obtain ⟨U, rfl, hU, oB, hb1⟩ := hcut
    clear o0 b0 ht2 hta htb HT z1 z2 z3 u0 u1 m1 m1' m2 m2' w1 w2
    have hUs : U.size = 8 := by rw [← toL_length, hU, Ni.enc_length X 4 (by omega)]; rfl
    go_wp2_with fail
    go_loopw [3, 4] (fun s i wr => ∃ (k : Nat) (U : ByteArray), k ≤ 6 ∧ i = .int .i64 k ∧ s = .string U ∧ toL U = Ni.enc X (4 + k) ∧ Nm.Own wr B 27 (ic X) ∧ Below B w wr) (fun _ i _ => 6 - (intOf i).toNat)
    case atStart => exact ⟨0, U, by omega, rfl, rfl, hU, oB, hb1⟩
    case round =>
      clear oB hb1 hU hUs
      obtain ⟨k, U, hk, rfl, rfl, hU, oB, hb1⟩ := hrel
      have hUs : U.size ≤ 20 := by
        rw [← toL_length, hU, Ni.enc_length X (4 + k) (by omega)]
        unfold Ni.of
        rw [if_neg (by omega), if_neg (by omega)]
        omega
      by_cases hlt : k < 6
      · obtain ⟨v, hv, lv⟩ := l4 k hlt
        have htk := fun wr => two_any v wr lv
        have sk := two_size v
        have HN := Lib.hid (show toL (U ++ ⟨(Nu.putB v 2).toArray⟩) = Ni.enc X (4 + (k + 1)) from by
          have e : Ni.enc X (4 + (k + 1)) = Ni.enc X (4 + k) ++ Nu.putB (X (4 + k)).toNat (Ni.sz (4 + k)) := rfl
          have hs : Ni.sz (4 + k) = 2 := by unfold Ni.sz; rw [if_neg (by omega), if_neg (by omega)]
          rw [e, hs, hv, Int.toNat_natCast, toL_app', hU, toL_mk (Nu.putB v 2)])
        generalize (⟨(Nu.putB v 2).toArray⟩ : ByteArray) = P at *
        have cl4 : Ni.cl (4 + k) = 4 + k := by unfold Ni.cl; rw [if_neg (by omega), if_neg (by omega)]
        have y5 : wr.cell? ⟨B, 4 + k, none⟩ = some (.int .i64 (v : Int)) := by
          have := (oB.cell (Ni.cl (4 + k))).trans (ic_get _ (4 + k) (by omega))
          rwa [cl4, hv] at this
        have k0 : (k : Int) < 6 := by omega
        have k1 : 0 ≤ (k : Int) := by omega
        have e3 : IntKind.i64.wrap ((k : Int) + 1) = (k : Int) + 1 := IntWalk.i64_in _ (by omega)
        have z : ¬ 9223372036854775807 < U.size + P.size := by omega
        clear hv hU hf l4 cl4 nat
        go_wp2_with fail
        refine (htk _).mono ?_
        rintro e w5 ⟨rfl, hx⟩
        have oB5 := oB.below hx
        have hb5 := hb1.trans (hx.mono (hB ▸ hb1.size))
        clear oB hb1 hx y5
        go_wp2_with fail
        go_roundw
        case rel => exact ⟨k + 1, _, by omega, by go_num, rfl, HN.out, oB5, hb5⟩
        case measure => simp [intOf]; omega
      · obtain rfl : k = 6 := by omega
        have HU := Lib.hid (HE.out U hU)
        have z1 : ¬ 9223372036854775807 < U.size + P10.size := by omega
        have z2 : ¬ 9223372036854775807 < U.size + P10.size + P11.size := by omega
        have hsz : (U ++ P10 ++ P11).size = 24 := by
          rw [← toL_length, HU.out, enc24]
        clear hU hf l4 nat s10 s11
        go_wp2_with fail
        refine wp_region_held_drew (S := fun V => Nm.Own V B 27 (ic X) ∧ Below B w V) (by kernel_rfl) ⟨oB, hb1.drew⟩ (fun hHeld => ?_)
        generalize wr.drew = V0 at *
        clear oB hb1
        refine wpAnyH_take (i := 0) (oi := { dst := some 38, op := Op.move (Operand.tmp 3), type := _, pos := _, after := _, guard := _ }) (v := ?_) rfl (by kernel_rfl) (by kernel_rfl) (by kernel_rfl) (fun _ _ _ h => h) (Or.inl ⟨by rfl, ?_⟩) hHeld ?_
        rotate_left
        · intro wq hSw
          go_simp
          rfl
        try simp only [Act.put, List.setIfInBounds_toArray, List.set_cons_zero, List.set_cons_succ]
        refine wpAnyH_take (i := 1) (oi := { dst := some 39, op := Op.fieldAddr 27 (Operand.tmp 1) 5, type := _, pos := _, after := _, guard := _ }) (v := ?_) rfl (by kernel_rfl) (by kernel_rfl) (by kernel_rfl) (fun _ _ _ h => h) (Or.inl ⟨by rfl, ?_⟩) hHeld ?_
        rotate_left
        · intro wq hSw
          go_simp
          rfl
        try simp only [Act.put, List.setIfInBounds_toArray, List.set_cons_zero, List.set_cons_succ]
        refine wpAnyH_take (i := 2) (oi := { dst := some 40, op := Op.load 3 (Operand.tmp 39), type := _, pos := _, after := _, guard := _ }) (v := ?_) rfl (by kernel_rfl) (by kernel_rfl) (by kernel_rfl) (fun _ _ _ h => h) (Or.inl ⟨by rfl, ?_⟩) hHeld ?_
        rotate_left
        · intro wq hSw
          obtain ⟨d0, d1, d2, d3, d4, d5⟩ := HC wq hSw.1
          go_simp
          rfl
        try simp only [Act.put, List.setIfInBounds_toArray, List.set_cons_zero, List.set_cons_succ]
        refine wpAnyH_take (i := 5) (oi := { dst := some 43, op := Op.fieldAddr 27 (Operand.tmp 1) 6, type := _, pos := _, after := _, guard := _ }) (v := ?_) rfl (by kernel_rfl) (by kernel_rfl) (by kernel_rfl) (fun _ _ _ h => h) (Or.inl ⟨by rfl, ?_⟩) hHeld ?_
        rotate_left
        · intro wq hSw
          go_simp
          rfl
        try simp only [Act.put, List.setIfInBounds_toArray, List.set_cons_zero, List.set_cons_succ]
        refine wpAnyH_take (i := 6) (oi := { dst := some 44, op := Op.load 3 (Operand.tmp 43), type := _, pos := _, after := _, guard := _ }) (v := ?_) rfl (by kernel_rfl) (by kernel_rfl) (by kernel_rfl) (fun _ _ _ h => h) (Or.inl ⟨by rfl, ?_⟩) hHeld ?_
        rotate_left
        · intro wq hSw
          obtain ⟨d0, d1, d2, d3, d4, d5⟩ := HC wq hSw.1
          go_simp
          rfl
        try simp only [Act.put, List.setIfInBounds_toArray, List.set_cons_zero, List.set_cons_succ]
        refine wpAnyH_ready (rs := [3]) (by kernel_rfl) (by simp) ?_
        refine AllReadyH.cons (o := { dst := some 41, op := Op.call { callee := Callee.value (Operand.func 49), args := #[Operand.tmp 40], argTypes := #[3] }, type := _, pos := _, after := _, guard := _ }) rfl (fun KK hKK => ?_) AllReadyH.nil
        have hKS := Lib.hid hKK
        clear hKK
        go_simp
        refine (ht10 _).mono ?_
        rintro e w3 ⟨rfl, hx⟩
        go_wp2_with fail
        try replace og := og.below hx
        have hH2 : Nm.Own w3 B 27 (ic X) ∧ Below B w w3 := ⟨hHeld.1.below hx, hHeld.2.trans (hx.mono (hB ▸ hHeld.2.size))⟩
        refine hKS.out.out _ _ hH2 (fun hHeld => ?_)
        clear hKS KK hx hH2
        try simp only [Act.put, List.setIfInBounds_toArray, List.set_cons_zero, List.set_cons_succ]
        refine wpAnyH_take (i := 4) (oi := { dst := some 42, op := Op.binOp BinOp.add 9 (Operand.tmp 38) (Operand.tmp 41) 9, type := _, pos := _, after := _, guard := _ }) (v := ?_) rfl (by kernel_rfl) (by kernel_rfl) (by kernel_rfl) (fun _ _ _ h => h) (Or.inl ⟨by rfl, ?_⟩) hHeld ?_
        rotate_left
        · intro wq hSw
          go_simp
          rfl
        try simp only [Act.put, List.setIfInBounds_toArray, List.set_cons_zero, List.set_cons_succ]
        refine wpAnyH_ready (rs := [7]) (by kernel_rfl) (by simp) ?_
        refine AllReadyH.cons (o := { dst := some 45, op := Op.call { callee := Callee.value (Operand.func 49), args := #[Operand.tmp 44], argTypes := #[3] }, type := _, pos := _, after := _, guard := _ }) rfl (fun KK hKK => ?_) AllReadyH.nil
        have hKS := Lib.hid hKK
        clear hKK
        go_simp
        refine (ht11 _).mono ?_
        rintro e w7 ⟨rfl, hx⟩
        go_wp2_with fail
        try replace og := og.below hx
        have hH2 : Nm.Own w7 B 27 (ic X) ∧ Below B w w7 := ⟨hHeld.1.below hx, hHeld.2.trans (hx.mono (hB ▸ hHeld.2.size))⟩
        refine hKS.out.out _ _ hH2 (fun hHeld => ?_)
        clear hKS KK hx hH2
        try simp only [Act.put, List.setIfInBounds_toArray, List.set_cons_zero, List.set_cons_succ]
        refine wpAnyH_take (i := 8) (oi := { dst := some 46, op := Op.binOp BinOp.add 9 (Operand.tmp 42) (Operand.tmp 45) 9, type := _, pos := _, after := _, guard := _ }) (v := ?_) rfl (by kernel_rfl) (by kernel_rfl) (by kernel_rfl) (fun _ _ _ h => h) (Or.inl ⟨by rfl, ?_⟩) hHeld ?_
        rotate_left
        · intro wq hSw
          go_simp
          rfl
        try simp only [Act.put, List.setIfInBounds_toArray, List.set_cons_zero, List.set_cons_succ]
        refine wpAnyH_take (i := 9) (oi := { dst := some 3, op := Op.assign (Operand.tmp 46), type := _, pos := _, after := _, guard := _ }) (v := ?_) rfl (by kernel_rfl) (by kernel_rfl) (by kernel_rfl) (fun _ _ _ h => h) (Or.inl ⟨by rfl, ?_⟩) hHeld ?_
        rotate_left
        · intro wq hSw
          go_simp
          rfl
        try simp only [Act.put, List.setIfInBounds_toArray, List.set_cons_zero, List.set_cons_succ]
        refine wpAnyH_done (by kernel_rfl) ?_ _
        have hUt : (toL (U ++ P10 ++ P11)).take 24 = Ni.enc X 12 := by rw [HU.out, List.take_of_length_le (by rw [enc24]; exact Nat.le_refl _)]
        clear HU
        generalize U ++ P10 ++ P11 = U2 at *
        clear z1 z2 ht10 ht11
        have hb9 := hHeld.2
        go_wp2_with fail
        go_loopw [3] (fun s wr => ∃ (j : Nat) (V : ByteArray), j ≤ 40 ∧ s = .string V ∧ V.size = 24 + j ∧ (toL V).take 24 = Ni.enc X 12 ∧ Below B w wr) (fun s _ => 64 - szOf s)
        case atStart => exact ⟨0, U2, by omega, rfl, hsz, hUt, hb9⟩
        case round =>
          clear hb9 hHeld hUt hsz
          obtain ⟨j, V, hj, rfl, hVs, hVt, hb9⟩ := hrel
          by_cases hlt : j < 40
          · have j0 : (24 : Int) + (j : Int) < 64 := by omega
            have hs1 : (V ++ (⟨#[0]⟩ : ByteArray)).size = 24 + (j + 1) := by
              rw [ByteArray.size_append, hVs]; rfl
            have HVV := Lib.hid (show (toL (V ++ (⟨#[0]⟩ : ByteArray))).take 24 = Ni.enc X 12 by
              rw [toL_app', List.take_append_of_le_length (by rw [toL_length]; omega), hVt])
            have HS1 := Lib.hid hs1
            have z : ¬ 9223372036854775807 < 24 + j + 1 := by omega
            clear hVt hs1
            go_wp2_with fail
            go_roundw
            case rel => exact ⟨j + 1, _, by omega, rfl, HS1.out, HVV.out, hb9⟩
            case measure =>
              have := HS1.out
              simp only [szOf, hVs]
              omega
          · obtain rfl : j = 40 := by omega
            have j0 : ¬ (24 : Int) + ((40 : Nat) : Int) < 64 := by omega
            have HVV := Lib.hid hVt
            have HVS := Lib.hid hVs
            clear hVt
            go_wp2_with fail
            go_ret
            exact ⟨⟨V, rfl, HVS.out, HVV.out⟩, hb9⟩
end Dw
end Go.Proofs.YtambgmjiafcokaaDoor
