/-
  THE WALK of the document's inode of 64 bytes (Of).
-/
import Derived.Test.YtambgmjiafcokaaDoorIr
namespace Go.Proofs.YtambgmjiafcokaaDoor
set_option linter.unusedVariables false
set_option maxRecDepth 100000
set_option linter.unusedSimpArgs false
open Go.RowKit
namespace Dw
open _root_.Go.Proofs.YtambgmjiafcokaaDoor.Nm
theorem getB_append : ∀ (a b : List UInt8), Nu.getB (a ++ b) = Nu.getB a + 256 ^ a.length * Nu.getB b
  | [], b => by simp [Nu.getB]
  | c :: t, b => by
    rw [List.cons_append, Nu.getB, Nu.getB, getB_append t b, List.length_cons, Nat.pow_succ]
    rw [Nat.mul_add, Nat.mul_comm (256 ^ t.length) 256, Nat.mul_assoc]
    omega
theorem dec_two (s : List UInt8) {q : Nat} (h : 4 ≤ q) : Ni.dec s q = (wd s (2 * q) : Nat) := by
  unfold Ni.dec Ni.fld wd Ni.of Ni.sz
  rw [if_neg (by omega), if_neg (by omega), if_neg (by omega), if_neg (by omega)]
theorem dec_links (s : List UInt8) : Ni.dec s 2 = (wd s 2 : Nat) := rfl
theorem dec_size (s : List UInt8) (h : 8 ≤ s.length) : Ni.dec s 3 = (wd s 4 : Nat) + 65536 * (wd s 6 : Nat) := by
  have e : Ni.dec s 3 = (Nu.getB ((s.drop 4).take 4) : Nat) := rfl
  rw [e, show (4 : Nat) = 2 + 2 from rfl, List.take_add, getB_append, List.length_take, List.length_drop, List.drop_drop, Nat.min_eq_left (by omega)]
  unfold wd
  simp
theorem dec_byte (T : ByteArray) (q : Nat) (hq : q < 2) (h : q < T.size) : Ni.dec (toL T) q = (T[q].toNat : Nat) := by
  have hl : q < (toL T).length := by rw [toL_length]; exact h
  have e : Ni.dec (toL T) q = (Nu.getB (((toL T).drop q).take 1) : Nat) := by
    unfold Ni.dec Ni.fld Ni.of Ni.sz
    rw [if_pos hq, if_pos (by omega)]
  rw [e, List.drop_eq_getElem_cons hl]
  show ((((toL T)[q].toNat + 256 * 0 : Nat)) : Int) = _
  simp [toL]
  rfl
/-- what is read when the first k of the six are -/
def xk (s : List UInt8) (k : Nat) : Nat → Int := fun q => if q < 4 + k ∨ 9 < q then Ni.dec s q else 0
theorem xk_next (s : List UInt8) {k : Nat} (hk : k < 6) : upd (xk s k) (4 + k) (wd s (8 + 2 * k) : Nat) = xk s (k + 1) := by
  funext q
  unfold upd xk
  by_cases e : q = 4 + k
  · subst e
    rw [if_pos rfl, if_pos (by omega), dec_two s (by omega), show 2 * (4 + k) = 8 + 2 * k by omega]
  · rw [if_neg e]
    by_cases h : q < 4 + k ∨ 9 < q
    · rw [if_pos h, if_pos (by omega)]
    · rw [if_neg h, if_neg (by omega)]
theorem xk_all (s : List UInt8) : ic (xk s 6) = ic (Ni.dec s) := ic_congr fun q hq => by
  unfold xk
  rw [if_pos (by omega)]
theorem xk_zero (T : ByteArray) (h : T.size = 64) (a b v2 v4 v6 v20 v22 : Nat) (ha : a = (T[0]'(by omega)).toNat) (hb : b = (T[1]'(by omega)).toNat) (h2 : v2 = wd (toL T) 2) (h4 : v4 = wd (toL T) 4) (h6 : v6 = wd (toL T) 6) (h20 : v20 = wd (toL T) 20) (h22 : v22 = wd (toL T) 22) :
    ic (xk (toL T) 0) = #[.int .i64 (a : Nat), .int .i64 (v2 : Nat), .int .i64 (b : Nat), .int .i64 ((v4 : Nat) + 65536 * (v6 : Nat)), .int .i64 0, .int .i64 0, .int .i64 0, .int .i64 0, .int .i64 0, .int .i64 0, .int .i64 (v20 : Nat), .int .i64 (v22 : Nat)] := by
  have e0 : xk (toL T) 0 0 = (a : Nat) := by rw [ha]; exact dec_byte T 0 (by omega) (by omega)
  have e1 : xk (toL T) 0 1 = (b : Nat) := by rw [hb]; exact dec_byte T 1 (by omega) (by omega)
  have e2 : xk (toL T) 0 2 = (v2 : Nat) := by rw [h2]; exact dec_links _
  have e3 : xk (toL T) 0 3 = (v4 : Nat) + 65536 * (v6 : Nat) := by rw [h4, h6]; exact dec_size _ (by rw [toL_length]; omega)
  have e10 : xk (toL T) 0 10 = (v20 : Nat) := by rw [h20]; exact dec_two _ (by omega)
  have e11 : xk (toL T) 0 11 = (v22 : Nat) := by rw [h22]; exact dec_two _ (by omega)
  unfold ic
  rw [e0, e1, e2, e3, e10, e11]
  rfl
theorem st27 {o : Oper} {a : Act} {w : World} {K : Act → World → Prop} {Q : Exit → Act → World → Prop} {ops : Array Oper} {E : Prop} (hgd : o.guard = none) (x y : Operand) {g : Nat} {X Y : Nat → Int}
    (ho : o.op = .store 27 x y) (hx : a.eval x = .pointer (some ⟨g, 0, none⟩)) (hy : a.eval y = .agg (ic X)) (hg : Nm.Own w g 27 (ic Y))
    (h : K (a.put o.dst undef) (w.setRow g (ic X))) : if Region.wanted o (yielded ops a.tmps) = true then Oper.wp Tryd.prog o a w K Q else E := by
  have hw : Region.wanted o (yielded ops a.tmps) = true := by simp [Region.wanted, hgd]
  rw [if_pos hw]
  exact wp_store_row 27 x y ho g _ hx hy 27 (ic Y) hg (by rw [ic_size]; exact info27) (by rw [ic_size, ic_size]) (ic_one X) h
theorem res27 {fn : Func} {p : Tmp} {R : Ending → World → Prop} {a : Act} {w : World} {g : Nat} {X : Nat → Int}
    (hr : fn.results = #[.cell p 27]) (hp : a.tmps.getD p undef = .pointer (some ⟨g, 0, none⟩)) (hg : Nm.Own w g 27 (ic X)) (hd : a.defers = [])
    (hR : R (.returned (.agg (ic X))) w) : bodyPost Tryd.prog fn R .ret a w := by
  refine bodyPost_ret ?_ hd hR
  have hp' : a.tmps[p]?.getD undef = .pointer (some ⟨g, 0, none⟩) := by simpa using hp
  simp [results, hr, hp', asAddr, run_loadVar_row w g 27 27 _ (0, 0) _ hg Tryd.underlying27 rfl (by rw [ic_size]; exact info27)]
set_option maxHeartbeats 2000000 in
theorem ofs_any (T : ByteArray) (w : World) (h : T.size = 64) :
    Calls Tryd.prog 27 #[.string T] w fun e w' => e = .returned (.agg (ic (Ni.dec (toL T)))) ∧ Below w.heap.size w w' := by
  obtain ⟨B, hB⟩ : ∃ B, w.heap.size = B := ⟨_, rfl⟩
  have hw := fun (i : Nat) (hi : i < 63) wr => word_any T i wr (by omega) (by omega)
  have hw2 := hw 2 (by omega)
  have hw4 := hw 4 (by omega)
  have hw6 := hw 6 (by omega)
  have hw20 := hw 20 (by omega)
  have hw22 := hw 22 (by omega)
  have l4 := wd_lt (toL T) 4
  have l6 := wd_lt (toL T) 6
  have i0 : (0 : Int) < (T.size : Int) := by omega
  have i1 : (1 : Int) < (T.size : Int) := by omega
  have ha : (T[0]'(by omega)).toNat < 256 := UInt8.toNat_lt _
  have hb : (T[1]'(by omega)).toNat < 256 := UInt8.toNat_lt _
  have HZ := Lib.hid (xk_zero T h _ _ _ _ _ _ _ rfl rfl rfl rfl rfl rfl rfl)
  have e0 : IntKind.i64.wrap ((T[0]'(by omega)).toNat : Int) = ((T[0]'(by omega)).toNat : Int) := IntWalk.i64_in _ (by omega)
  have e1 : IntKind.i64.wrap ((T[1]'(by omega)).toNat : Int) = ((T[1]'(by omega)).toNat : Int) := IntWalk.i64_in _ (by omega)
  have o0 := Nm.Own.new w 27 (ic zX)
  have hb0 := grow w (Obj.cells (ic zX) 27)
  rw [hB] at o0 hb0
  generalize wd (toL T) 2 = v2 at *
  generalize wd (toL T) 4 = v4 at *
  generalize wd (toL T) 6 = v6 at *
  generalize wd (toL T) 20 = v20 at *
  generalize wd (toL T) 22 = v22 at *
  have e2 : IntKind.i64.wrap (65536 * (v6 : Int)) = 65536 * (v6 : Int) := IntWalk.i64_in _ (by omega)
  have e3 : IntKind.i64.wrap ((v4 : Int) + 65536 * (v6 : Int)) = (v4 : Int) + 65536 * (v6 : Int) := IntWalk.i64_in _ (by omega)
  go_enter Tryd.func27, Tryd.ntmps27
  go_wp2_with fail
  go_cut [3] from 5 (fun s3 wc => ∃ g, s3 = .pointer (some ⟨g, 0, none⟩) ∧ Nm.Own wc g 27 (ic (xk (toL T) 0)) ∧ Nm.Own wc B 27 (ic zX) ∧ Below B w wc ∧ B < g)
  case first =>
    refine wp_region_held_drew (S := fun V => Nm.Own V B 27 (ic zX) ∧ Below B w V) (by kernel_rfl) ⟨o0, hb0.drew⟩ (fun hHeld => ?_)
    generalize (w.alloc (Obj.cells #[.int .i64 0, .int .i64 0, .int .i64 0, .int .i64 0, .int .i64 0, .int .i64 0, .int .i64 0, .int .i64 0, .int .i64 0, .int .i64 0, .int .i64 0, .int .i64 0] 27)).drew = V0 at *
    clear hw o0 hb0
    refine wpAnyH_take (i := 0) (oi := { dst := some 5, op := Op.move (Operand.tmp 0), type := _, pos := _, after := _, guard := _ }) (v := ?_) rfl (by kernel_rfl) (by kernel_rfl) (by kernel_rfl) (fun _ _ _ h => h) (Or.inl ⟨by rfl, ?_⟩) hHeld ?_
    rotate_left
    · intro wq hSw
      go_simp
      rfl
    try simp only [Act.put, List.setIfInBounds_toArray, List.set_cons_zero, List.set_cons_succ]
    refine wpAnyH_take (i := 1) (oi := { dst := some 6, op := Op.index 9 (Operand.tmp 5) (Operand.const (Value.int IntKind.i64 0)), type := _, pos := _, after := _, guard := _ }) (v := ?_) rfl (by kernel_rfl) (by kernel_rfl) (by kernel_rfl) (fun _ _ _ h => h) (Or.inl ⟨by rfl, ?_⟩) hHeld ?_
    rotate_left
    · intro wq hSw
      go_simp
      rfl
    try simp only [Act.put, List.setIfInBounds_toArray, List.set_cons_zero, List.set_cons_succ]
    refine wpAnyH_take (i := 2) (oi := { dst := some 7, op := Op.convert 5 3 (Operand.tmp 6), type := _, pos := _, after := _, guard := _ }) (v := ?_) rfl (by kernel_rfl) (by kernel_rfl) (by kernel_rfl) (fun _ _ _ h => h) (Or.inl ⟨by rfl, ?_⟩) hHeld ?_
    rotate_left
    · intro wq hSw
      go_simp
      rfl
    try simp only [Act.put, List.setIfInBounds_toArray, List.set_cons_zero, List.set_cons_succ]
    refine wpAnyH_take (i := 3) (oi := { dst := some 8, op := Op.move (Operand.tmp 0), type := _, pos := _, after := _, guard := _ }) (v := ?_) rfl (by kernel_rfl) (by kernel_rfl) (by kernel_rfl) (fun _ _ _ h => h) (Or.inl ⟨by rfl, ?_⟩) hHeld ?_
    rotate_left
    · intro wq hSw
      go_simp
      rfl
    try simp only [Act.put, List.setIfInBounds_toArray, List.set_cons_zero, List.set_cons_succ]
    refine wpAnyH_take (i := 4) (oi := { dst := some 9, op := Op.index 9 (Operand.tmp 8) (Operand.const (Value.int IntKind.i64 1)), type := _, pos := _, after := _, guard := _ }) (v := ?_) rfl (by kernel_rfl) (by kernel_rfl) (by kernel_rfl) (fun _ _ _ h => h) (Or.inl ⟨by rfl, ?_⟩) hHeld ?_
    rotate_left
    · intro wq hSw
      go_simp
      rfl
    try simp only [Act.put, List.setIfInBounds_toArray, List.set_cons_zero, List.set_cons_succ]
    refine wpAnyH_take (i := 5) (oi := { dst := some 10, op := Op.convert 5 3 (Operand.tmp 9), type := _, pos := _, after := _, guard := _ }) (v := ?_) rfl (by kernel_rfl) (by kernel_rfl) (by kernel_rfl) (fun _ _ _ h => h) (Or.inl ⟨by rfl, ?_⟩) hHeld ?_
    rotate_left
    · intro wq hSw
      go_simp
      rfl
    try simp only [Act.put, List.setIfInBounds_toArray, List.set_cons_zero, List.set_cons_succ]
    refine wpAnyH_take (i := 6) (oi := { dst := some 11, op := Op.move (Operand.tmp 0), type := _, pos := _, after := _, guard := _ }) (v := ?_) rfl (by kernel_rfl) (by kernel_rfl) (by kernel_rfl) (fun _ _ _ h => h) (Or.inl ⟨by rfl, ?_⟩) hHeld ?_
    rotate_left
    · intro wq hSw
      go_simp
      rfl
    try simp only [Act.put, List.setIfInBounds_toArray, List.set_cons_zero, List.set_cons_succ]
    refine wpAnyH_take (i := 8) (oi := { dst := some 13, op := Op.move (Operand.tmp 0), type := _, pos := _, after := _, guard := _ }) (v := ?_) rfl (by kernel_rfl) (by kernel_rfl) (by kernel_rfl) (fun _ _ _ h => h) (Or.inl ⟨by rfl, ?_⟩) hHeld ?_
    rotate_left
    · intro wq hSw
      go_simp
      rfl
    try simp only [Act.put, List.setIfInBounds_toArray, List.set_cons_zero, List.set_cons_succ]
    refine wpAnyH_take (i := 10) (oi := { dst := some 15, op := Op.move (Operand.tmp 0), type := _, pos := _, after := _, guard := _ }) (v := ?_) rfl (by kernel_rfl) (by kernel_rfl) (by kernel_rfl) (fun _ _ _ h => h) (Or.inl ⟨by rfl, ?_⟩) hHeld ?_
    rotate_left
    · intro wq hSw
      go_simp
      rfl
    try simp only [Act.put, List.setIfInBounds_toArray, List.set_cons_zero, List.set_cons_succ]
    refine wpAnyH_take (i := 14) (oi := { dst := some 19, op := Op.move (Operand.tmp 0), type := _, pos := _, after := _, guard := _ }) (v := ?_) rfl (by kernel_rfl) (by kernel_rfl) (by kernel_rfl) (fun _ _ _ h => h) (Or.inl ⟨by rfl, ?_⟩) hHeld ?_
    rotate_left
    · intro wq hSw
      go_simp
      rfl
    try simp only [Act.put, List.setIfInBounds_toArray, List.set_cons_zero, List.set_cons_succ]
    refine wpAnyH_take (i := 16) (oi := { dst := some 21, op := Op.move (Operand.tmp 0), type := _, pos := _, after := _, guard := _ }) (v := ?_) rfl (by kernel_rfl) (by kernel_rfl) (by kernel_rfl) (fun _ _ _ h => h) (Or.inl ⟨by rfl, ?_⟩) hHeld ?_
    rotate_left
    · intro wq hSw
      go_simp
      rfl
    try simp only [Act.put, List.setIfInBounds_toArray, List.set_cons_zero, List.set_cons_succ]
    refine wpAnyH_ready (rs := [7, 19]) (by kernel_rfl) (by simp) ?_
    refine AllReadyH.cons (o := { dst := some 12, op := Op.call { callee := Callee.value (Operand.func 44), args := #[Operand.tmp 11, Operand.const (Value.int IntKind.i64 2)], argTypes := #[9, 3] }, type := _, pos := _, after := _, guard := _ }) rfl (fun KK hKK => ?_) ?_
    · have hKS := Lib.hid hKK
      clear hKK
      go_simp
      refine (hw2 _).mono ?_
      rintro e w7 ⟨rfl, hx⟩
      go_wp2_with fail
      try replace og := og.below hx
      have hH2 : Nm.Own w7 B 27 (ic zX) ∧ Below B w w7 := ⟨hHeld.1.below hx, hHeld.2.trans (hx.mono (hB ▸ hHeld.2.size))⟩
      refine hKS.out.out _ _ hH2 (fun hHeld => ?_)
      clear hKS KK hx hH2
      try simp only [Act.put, List.setIfInBounds_toArray, List.set_cons_zero, List.set_cons_succ]
      refine wpAnyH_ready (rs := [9, 19]) (by kernel_rfl) (by simp) ?_
      refine AllReadyH.cons (o := { dst := some 14, op := Op.call { callee := Callee.value (Operand.func 44), args := #[Operand.tmp 13, Operand.const (Value.int IntKind.i64 4)], argTypes := #[9, 3] }, type := _, pos := _, after := _, guard := _ }) rfl (fun KK hKK => ?_) ?_
      · have hKS := Lib.hid hKK
        clear hKK
        go_simp
        refine (hw4 _).mono ?_
        rintro e w9 ⟨rfl, hx⟩
        go_wp2_with fail
        try replace og := og.below hx
        have hH2 : Nm.Own w9 B 27 (ic zX) ∧ Below B w w9 := ⟨hHeld.1.below hx, hHeld.2.trans (hx.mono (hB ▸ hHeld.2.size))⟩
        refine hKS.out.out _ _ hH2 (fun hHeld => ?_)
        clear hKS KK hx hH2
        try simp only [Act.put, List.setIfInBounds_toArray, List.set_cons_zero, List.set_cons_succ]
        refine wpAnyH_ready (rs := [11, 19]) (by kernel_rfl) (by simp) ?_
        refine AllReadyH.cons (o := { dst := some 16, op := Op.call { callee := Callee.value (Operand.func 44), args := #[Operand.tmp 15, Operand.const (Value.int IntKind.i64 6)], argTypes := #[9, 3] }, type := _, pos := _, after := _, guard := _ }) rfl (fun KK hKK => ?_) ?_
        · have hKS := Lib.hid hKK
          clear hKK
          go_simp
          refine (hw6 _).mono ?_
          rintro e w11 ⟨rfl, hx⟩
          go_wp2_with fail
          try replace og := og.below hx
          have hH2 : Nm.Own w11 B 27 (ic zX) ∧ Below B w w11 := ⟨hHeld.1.below hx, hHeld.2.trans (hx.mono (hB ▸ hHeld.2.size))⟩
          refine hKS.out.out _ _ hH2 (fun hHeld => ?_)
          clear hKS KK hx hH2
          try simp only [Act.put, List.setIfInBounds_toArray, List.set_cons_zero, List.set_cons_succ]
          refine wpAnyH_take (i := 12) (oi := { dst := some 17, op := Op.binOp BinOp.mul 3 (Operand.const (Value.int IntKind.i64 65536)) (Operand.tmp 16) 3, type := _, pos := _, after := _, guard := _ }) (v := ?_) rfl (by kernel_rfl) (by kernel_rfl) (by kernel_rfl) (fun _ _ _ h => h) (Or.inl ⟨by rfl, ?_⟩) hHeld ?_
          rotate_left
          · intro wq hSw
            go_simp
            rfl
          try simp only [Act.put, List.setIfInBounds_toArray, List.set_cons_zero, List.set_cons_succ]
          refine wpAnyH_take (i := 13) (oi := { dst := some 18, op := Op.binOp BinOp.add 3 (Operand.tmp 14) (Operand.tmp 17) 3, type := _, pos := _, after := _, guard := _ }) (v := ?_) rfl (by kernel_rfl) (by kernel_rfl) (by kernel_rfl) (fun _ _ _ h => h) (Or.inl ⟨by rfl, ?_⟩) hHeld ?_
          rotate_left
          · intro wq hSw
            go_simp
            rfl
          try simp only [Act.put, List.setIfInBounds_toArray, List.set_cons_zero, List.set_cons_succ]
          refine wpAnyH_ready (rs := [15, 19]) (by kernel_rfl) (by simp) ?_
          refine AllReadyH.cons (o := { dst := some 20, op := Op.call { callee := Callee.value (Operand.func 44), args := #[Operand.tmp 19, Operand.const (Value.int IntKind.i64 20)], argTypes := #[9, 3] }, type := _, pos := _, after := _, guard := _ }) rfl (fun KK hKK => ?_) ?_
          · have hKS := Lib.hid hKK
            clear hKK
            go_simp
            refine (hw20 _).mono ?_
            rintro e w15 ⟨rfl, hx⟩
            go_wp2_with fail
            try replace og := og.below hx
            have hH2 : Nm.Own w15 B 27 (ic zX) ∧ Below B w w15 := ⟨hHeld.1.below hx, hHeld.2.trans (hx.mono (hB ▸ hHeld.2.size))⟩
            refine hKS.out.out _ _ hH2 (fun hHeld => ?_)
            clear hKS KK hx hH2
            try simp only [Act.put, List.setIfInBounds_toArray, List.set_cons_zero, List.set_cons_succ]
            refine wpAnyH_ready (rs := [17, 19]) (by kernel_rfl) (by simp) ?_
            refine AllReadyH.cons (o := { dst := some 22, op := Op.call { callee := Callee.value (Operand.func 44), args := #[Operand.tmp 21, Operand.const (Value.int IntKind.i64 22)], argTypes := #[9, 3] }, type := _, pos := _, after := _, guard := _ }) rfl (fun KK hKK => ?_) ?_
            · have hKS := Lib.hid hKK
              clear hKK
              go_simp
              refine (hw22 _).mono ?_
              rintro e w17 ⟨rfl, hx⟩
              go_wp2_with fail
              try replace og := og.below hx
              have hH2 : Nm.Own w17 B 27 (ic zX) ∧ Below B w w17 := ⟨hHeld.1.below hx, hHeld.2.trans (hx.mono (hB ▸ hHeld.2.size))⟩
              refine hKS.out.out _ _ hH2 (fun hHeld => ?_)
              clear hKS KK hx hH2
              try simp only [Act.put, List.setIfInBounds_toArray, List.set_cons_zero, List.set_cons_succ]
              refine wpAnyH_take (i := 18) (oi := { dst := some 23, op := Op.build 27 #[(0, Operand.tmp 7), (2, Operand.tmp 10), (1, Operand.tmp 12), (3, Operand.tmp 18), (5, Operand.tmp 20), (6, Operand.tmp 22)], type := _, pos := _, after := _, guard := _ }) (v := ?_) rfl (by kernel_rfl) (by kernel_rfl) (by kernel_rfl) (fun _ _ _ h => h) (Or.inl ⟨by rfl, ?_⟩) hHeld ?_
              rotate_left
              · intro wq hSw
                go_simp
                rfl
              try simp only [Act.put, List.setIfInBounds_toArray, List.set_cons_zero, List.set_cons_succ]
              refine wpAnyH_ready (rs := [19]) (by kernel_rfl) (by simp) ?_
              refine AllReadyH.cons (o := { dst := some 3, op := Op.alloc 27, type := _, pos := _, after := _, guard := _ }) rfl (fun KK hKK => ?_) AllReadyH.nil
              have hKS := Lib.hid hKK
              clear hKK
              have og := Nm.Own.new w17 27 (ic zX)
              have hx := grow w17 (Obj.cells (ic zX) 27)
              have hgB : B < w17.heap.size := hHeld.1.lt
              go_simp
              have hH2 : Nm.Own (w17.alloc (Obj.cells (ic zX) 27)) B 27 (ic zX) ∧ Below B w (w17.alloc (Obj.cells (ic zX) 27)) := ⟨hHeld.1.below hx, hHeld.2.trans (hx.mono (hB ▸ hHeld.2.size))⟩
              refine hKS.out.out _ (w17.alloc (Obj.cells (ic zX) 27)) hH2 (fun hHeld => ?_)
              clear hKS KK hx hH2
              generalize World.alloc w17 (Obj.cells (ic zX) 27) = V19 at *
              generalize w17.heap.size = g at *
              try simp only [Act.put, List.setIfInBounds_toArray, List.set_cons_zero, List.set_cons_succ]
              refine wpAnyH_ready (rs := [20]) (by kernel_rfl) (by simp) ?_
              refine AllReadyH.cons (o := { dst := none, op := Op.store 27 (Operand.tmp 3) (Operand.tmp 23), type := _, pos := _, after := _, guard := _ }) rfl (fun KK hKK => ?_) AllReadyH.nil
              have hKS := Lib.hid hKK
              clear hKK
              have s7 := St.row V19 g (ic (xk (toL T) 0))
              have o7 : Nm.Own (V19.setRow g (ic (xk (toL T) 0))) g 27 (ic (xk (toL T) 0)) := setRow_heap V19 g _ _ 27 (0, 0) og
              refine st27 (X := xk (toL T) 0) rfl (.tmp 3) (.tmp 23) rfl (by simp [Act.eval, Act.put]) (by rw [HZ.out]; simp [Act.eval, Act.put]) og ?_
              have hH7 : Nm.Own (V19.setRow g (ic (xk (toL T) 0))) B 27 (ic zX) ∧ Below B w (V19.setRow g (ic (xk (toL T) 0))) := ⟨s7.own hHeld.1 (by omega), s7.below hHeld.2 (by omega)⟩
              refine hKS.out.out _ _ hH7 (fun hHeld => ?_)
              clear hKS KK s7 og hH7
              generalize World.setRow V19 g (ic (xk (toL T) 0)) = W7 at *
              try simp only [Act.put, List.setIfInBounds_toArray, List.set_cons_zero, List.set_cons_succ]
              refine wpAnyH_done (by kernel_rfl) ?_ _
              go_wp2_with fail
              go_meet
              case rel => exact ⟨g, rfl, o7, hHeld.1, hHeld.2, hgB⟩
            refine AllReadyH.cons (o := { dst := some 3, op := Op.alloc 27, type := _, pos := _, after := _, guard := _ }) rfl (fun KK hKK => ?_) AllReadyH.nil
            · have hKS := Lib.hid hKK
              clear hKK
              have og := Nm.Own.new w15 27 (ic zX)
              have hx := grow w15 (Obj.cells (ic zX) 27)
              have hgB : B < w15.heap.size := hHeld.1.lt
              go_simp
              have hH2 : Nm.Own (w15.alloc (Obj.cells (ic zX) 27)) B 27 (ic zX) ∧ Below B w (w15.alloc (Obj.cells (ic zX) 27)) := ⟨hHeld.1.below hx, hHeld.2.trans (hx.mono (hB ▸ hHeld.2.size))⟩
              refine hKS.out.out _ (w15.alloc (Obj.cells (ic zX) 27)) hH2 (fun hHeld => ?_)
              clear hKS KK hx hH2
              generalize World.alloc w15 (Obj.cells (ic zX) 27) = V19 at *
              generalize w15.heap.size = g at *
              try simp only [Act.put, List.setIfInBounds_toArray, List.set_cons_zero, List.set_cons_succ]
              refine wpAnyH_ready (rs := [17]) (by kernel_rfl) (by simp) ?_
              refine AllReadyH.cons (o := { dst := some 22, op := Op.call { callee := Callee.value (Operand.func 44), args := #[Operand.tmp 21, Operand.const (Value.int IntKind.i64 22)], argTypes := #[9, 3] }, type := _, pos := _, after := _, guard := _ }) rfl (fun KK hKK => ?_) AllReadyH.nil
              have hKS := Lib.hid hKK
              clear hKK
              go_simp
              refine (hw22 _).mono ?_
              rintro e w17 ⟨rfl, hx⟩
              go_wp2_with fail
              try replace og := og.below hx
              have hH2 : Nm.Own w17 B 27 (ic zX) ∧ Below B w w17 := ⟨hHeld.1.below hx, hHeld.2.trans (hx.mono (hB ▸ hHeld.2.size))⟩
              refine hKS.out.out _ _ hH2 (fun hHeld => ?_)
              clear hKS KK hx hH2
              try simp only [Act.put, List.setIfInBounds_toArray, List.set_cons_zero, List.set_cons_succ]
              refine wpAnyH_take (i := 18) (oi := { dst := some 23, op := Op.build 27 #[(0, Operand.tmp 7), (2, Operand.tmp 10), (1, Operand.tmp 12), (3, Operand.tmp 18), (5, Operand.tmp 20), (6, Operand.tmp 22)], type := _, pos := _, after := _, guard := _ }) (v := ?_) rfl (by kernel_rfl) (by kernel_rfl) (by kernel_rfl) (fun _ _ _ h => h) (Or.inl ⟨by rfl, ?_⟩) hHeld ?_
              rotate_left
              · intro wq hSw
                go_simp
                rfl
              try simp only [Act.put, List.setIfInBounds_toArray, List.set_cons_zero, List.set_cons_succ]
              refine wpAnyH_ready (rs := [20]) (by kernel_rfl) (by simp) ?_
              refine AllReadyH.cons (o := { dst := none, op := Op.store 27 (Operand.tmp 3) (Operand.tmp 23), type := _, pos := _, after := _, guard := _ }) rfl (fun KK hKK => ?_) AllReadyH.nil
              have hKS := Lib.hid hKK
              clear hKK
              have s7 := St.row w17 g (ic (xk (toL T) 0))
              have o7 : Nm.Own (w17.setRow g (ic (xk (toL T) 0))) g 27 (ic (xk (toL T) 0)) := setRow_heap w17 g _ _ 27 (0, 0) og
              refine st27 (X := xk (toL T) 0) rfl (.tmp 3) (.tmp 23) rfl (by simp [Act.eval, Act.put]) (by rw [HZ.out]; simp [Act.eval, Act.put]) og ?_
              have hH7 : Nm.Own (w17.setRow g (ic (xk (toL T) 0))) B 27 (ic zX) ∧ Below B w (w17.setRow g (ic (xk (toL T) 0))) := ⟨s7.own hHeld.1 (by omega), s7.below hHeld.2 (by omega)⟩
              refine hKS.out.out _ _ hH7 (fun hHeld => ?_)
              clear hKS KK s7 og hH7
              generalize World.setRow w17 g (ic (xk (toL T) 0)) = W7 at *
              try simp only [Act.put, List.setIfInBounds_toArray, List.set_cons_zero, List.set_cons_succ]
              refine wpAnyH_done (by kernel_rfl) ?_ _
              go_wp2_with fail
              go_meet
              case rel => exact ⟨g, rfl, o7, hHeld.1, hHeld.2, hgB⟩
          refine AllReadyH.cons (o := { dst := some 3, op := Op.alloc 27, type := _, pos := _, after := _, guard := _ }) rfl (fun KK hKK => ?_) AllReadyH.nil
          · have hKS := Lib.hid hKK
            clear hKK
            have og := Nm.Own.new w11 27 (ic zX)
            have hx := grow w11 (Obj.cells (ic zX) 27)
            have hgB : B < w11.heap.size := hHeld.1.lt
            go_simp
            have hH2 : Nm.Own (w11.alloc (Obj.cells (ic zX) 27)) B 27 (ic zX) ∧ Below B w (w11.alloc (Obj.cells (ic zX) 27)) := ⟨hHeld.1.below hx, hHeld.2.trans (hx.mono (hB ▸ hHeld.2.size))⟩
            refine hKS.out.out _ (w11.alloc (Obj.cells (ic zX) 27)) hH2 (fun hHeld => ?_)
            clear hKS KK hx hH2
            generalize World.alloc w11 (Obj.cells (ic zX) 27) = V19 at *
            generalize w11.heap.size = g at *
            try simp only [Act.put, List.setIfInBounds_toArray, List.set_cons_zero, List.set_cons_succ]
            refine wpAnyH_ready (rs := [15]) (by kernel_rfl) (by simp) ?_
            refine AllReadyH.cons (o := { dst := some 20, op := Op.call { callee := Callee.value (Operand.func 44), args := #[Operand.tmp 19, Operand.const (Value.int IntKind.i64 20)], argTypes := #[9, 3] }, type := _, pos := _, after := _, guard := _ }) rfl (fun KK hKK => ?_) AllReadyH.nil
            have hKS := Lib.hid hKK
            clear hKK
            go_simp
            refine (hw20 _).mono ?_
            rintro e w15 ⟨rfl, hx⟩
            go_wp2_with fail
            try replace og := og.below hx
            have hH2 : Nm.Own w15 B 27 (ic zX) ∧ Below B w w15 := ⟨hHeld.1.below hx, hHeld.2.trans (hx.mono (hB ▸ hHeld.2.size))⟩
            refine hKS.out.out _ _ hH2 (fun hHeld => ?_)
            clear hKS KK hx hH2
            try simp only [Act.put, List.setIfInBounds_toArray, List.set_cons_zero, List.set_cons_succ]
            refine wpAnyH_ready (rs := [17]) (by kernel_rfl) (by simp) ?_
            refine AllReadyH.cons (o := { dst := some 22, op := Op.call { callee := Callee.value (Operand.func 44), args := #[Operand.tmp 21, Operand.const (Value.int IntKind.i64 22)], argTypes := #[9, 3] }, type := _, pos := _, after := _, guard := _ }) rfl (fun KK hKK => ?_) AllReadyH.nil
            have hKS := Lib.hid hKK
            clear hKK
            go_simp
            refine (hw22 _).mono ?_
            rintro e w17 ⟨rfl, hx⟩
            go_wp2_with fail
            try replace og := og.below hx
            have hH2 : Nm.Own w17 B 27 (ic zX) ∧ Below B w w17 := ⟨hHeld.1.below hx, hHeld.2.trans (hx.mono (hB ▸ hHeld.2.size))⟩
            refine hKS.out.out _ _ hH2 (fun hHeld => ?_)
            clear hKS KK hx hH2
            try simp only [Act.put, List.setIfInBounds_toArray, List.set_cons_zero, List.set_cons_succ]
            refine wpAnyH_take (i := 18) (oi := { dst := some 23, op := Op.build 27 #[(0, Operand.tmp 7), (2, Operand.tmp 10), (1, Operand.tmp 12), (3, Operand.tmp 18), (5, Operand.tmp 20), (6, Operand.tmp 22)], type := _, pos := _, after := _, guard := _ }) (v := ?_) rfl (by kernel_rfl) (by kernel_rfl) (by kernel_rfl) (fun _ _ _ h => h) (Or.inl ⟨by rfl, ?_⟩) hHeld ?_
            rotate_left
            · intro wq hSw
              go_simp
              rfl
            try simp only [Act.put, List.setIfInBounds_toArray, List.set_cons_zero, List.set_cons_succ]
            refine wpAnyH_ready (rs := [20]) (by kernel_rfl) (by simp) ?_
            refine AllReadyH.cons (o := { dst := none, op := Op.store 27 (Operand.tmp 3) (Operand.tmp 23), type := _, pos := _, after := _, guard := _ }) rfl (fun KK hKK => ?_) AllReadyH.nil
            have hKS := Lib.hid hKK
            clear hKK
            have s7 := St.row w17 g (ic (xk (toL T) 0))
            have o7 : Nm.Own (w17.setRow g (ic (xk (toL T) 0))) g 27 (ic (xk (toL T) 0)) := setRow_heap w17 g _ _ 27 (0, 0) og
            refine st27 (X := xk (toL T) 0) rfl (.tmp 3) (.tmp 23) rfl (by simp [Act.eval, Act.put]) (by rw [HZ.out]; simp [Act.eval, Act.put]) og ?_
            have hH7 : Nm.Own (w17.setRow g (ic (xk (toL T) 0))) B 27 (ic zX) ∧ Below B w (w17.setRow g (ic (xk (toL T) 0))) := ⟨s7.own hHeld.1 (by omega), s7.below hHeld.2 (by omega)⟩
            refine hKS.out.out _ _ hH7 (fun hHeld => ?_)
            clear hKS KK s7 og hH7
            generalize World.setRow w17 g (ic (xk (toL T) 0)) = W7 at *
            try simp only [Act.put, List.setIfInBounds_toArray, List.set_cons_zero, List.set_cons_succ]
            refine wpAnyH_done (by kernel_rfl) ?_ _
            go_wp2_with fail
            go_meet
            case rel => exact ⟨g, rfl, o7, hHeld.1, hHeld.2, hgB⟩
        refine AllReadyH.cons (o := { dst := some 3, op := Op.alloc 27, type := _, pos := _, after := _, guard := _ }) rfl (fun KK hKK => ?_) AllReadyH.nil
        · have hKS := Lib.hid hKK
          clear hKK
          have og := Nm.Own.new w9 27 (ic zX)
          have hx := grow w9 (Obj.cells (ic zX) 27)
          have hgB : B < w9.heap.size := hHeld.1.lt
          go_simp
          have hH2 : Nm.Own (w9.alloc (Obj.cells (ic zX) 27)) B 27 (ic zX) ∧ Below B w (w9.alloc (Obj.cells (ic zX) 27)) := ⟨hHeld.1.below hx, hHeld.2.trans (hx.mono (hB ▸ hHeld.2.size))⟩
          refine hKS.out.out _ (w9.alloc (Obj.cells (ic zX) 27)) hH2 (fun hHeld => ?_)
          clear hKS KK hx hH2
          generalize World.alloc w9 (Obj.cells (ic zX) 27) = V19 at *
          generalize w9.heap.size = g at *
          try simp only [Act.put, List.setIfInBounds_toArray, List.set_cons_zero, List.set_cons_succ]
          refine wpAnyH_ready (rs := [11]) (by kernel_rfl) (by simp) ?_
          refine AllReadyH.cons (o := { dst := some 16, op := Op.call { callee := Callee.value (Operand.func 44), args := #[Operand.tmp 15, Operand.const (Value.int IntKind.i64 6)], argTypes := #[9, 3] }, type := _, pos := _, after := _, guard := _ }) rfl (fun KK hKK => ?_) AllReadyH.nil
          have hKS := Lib.hid hKK
          clear hKK
          go_simp
          refine (hw6 _).mono ?_
          rintro e w11 ⟨rfl, hx⟩
          go_wp2_with fail
          try replace og := og.below hx
          have hH2 : Nm.Own w11 B 27 (ic zX) ∧ Below B w w11 := ⟨hHeld.1.below hx, hHeld.2.trans (hx.mono (hB ▸ hHeld.2.size))⟩
          refine hKS.out.out _ _ hH2 (fun hHeld => ?_)
          clear hKS KK hx hH2
          try simp only [Act.put, List.setIfInBounds_toArray, List.set_cons_zero, List.set_cons_succ]
          refine wpAnyH_take (i := 12) (oi := { dst := some 17, op := Op.binOp BinOp.mul 3 (Operand.const (Value.int IntKind.i64 65536)) (Operand.tmp 16) 3, type := _, pos := _, after := _, guard := _ }) (v := ?_) rfl (by kernel_rfl) (by kernel_rfl) (by kernel_rfl) (fun _ _ _ h => h) (Or.inl ⟨by rfl, ?_⟩) hHeld ?_
          rotate_left
          · intro wq hSw
            go_simp
            rfl
          try simp only [Act.put, List.setIfInBounds_toArray, List.set_cons_zero, List.set_cons_succ]
          refine wpAnyH_take (i := 13) (oi := { dst := some 18, op := Op.binOp BinOp.add 3 (Operand.tmp 14) (Operand.tmp 17) 3, type := _, pos := _, after := _, guard := _ }) (v := ?_) rfl (by kernel_rfl) (by kernel_rfl) (by kernel_rfl) (fun _ _ _ h => h) (Or.inl ⟨by rfl, ?_⟩) hHeld ?_
          rotate_left
          · intro wq hSw
            go_simp
            rfl
          try simp only [Act.put, List.setIfInBounds_toArray, List.set_cons_zero, List.set_cons_succ]
          refine wpAnyH_ready (rs := [15]) (by kernel_rfl) (by simp) ?_
          refine AllReadyH.cons (o := { dst := some 20, op := Op.call { callee := Callee.value (Operand.func 44), args := #[Operand.tmp 19, Operand.const (Value.int IntKind.i64 20)], argTypes := #[9, 3] }, type := _, pos := _, after := _, guard := _ }) rfl (fun KK hKK => ?_) AllReadyH.nil
          have hKS := Lib.hid hKK
          clear hKK
          go_simp
          refine (hw20 _).mono ?_
          rintro e w15 ⟨rfl, hx⟩
          go_wp2_with fail
          try replace og := og.below hx
          have hH2 : Nm.Own w15 B 27 (ic zX) ∧ Below B w w15 := ⟨hHeld.1.below hx, hHeld.2.trans (hx.mono (hB ▸ hHeld.2.size))⟩
          refine hKS.out.out _ _ hH2 (fun hHeld => ?_)
          clear hKS KK hx hH2
          try simp only [Act.put, List.setIfInBounds_toArray, List.set_cons_zero, List.set_cons_succ]
          refine wpAnyH_ready (rs := [17]) (by kernel_rfl) (by simp) ?_
          refine AllReadyH.cons (o := { dst := some 22, op := Op.call { callee := Callee.value (Operand.func 44), args := #[Operand.tmp 21, Operand.const (Value.int IntKind.i64 22)], argTypes := #[9, 3] }, type := _, pos := _, after := _, guard := _ }) rfl (fun KK hKK => ?_) AllReadyH.nil
          have hKS := Lib.hid hKK
          clear hKK
          go_simp
          refine (hw22 _).mono ?_
          rintro e w17 ⟨rfl, hx⟩
          go_wp2_with fail
          try replace og := og.below hx
          have hH2 : Nm.Own w17 B 27 (ic zX) ∧ Below B w w17 := ⟨hHeld.1.below hx, hHeld.2.trans (hx.mono (hB ▸ hHeld.2.size))⟩
          refine hKS.out.out _ _ hH2 (fun hHeld => ?_)
          clear hKS KK hx hH2
          try simp only [Act.put, List.setIfInBounds_toArray, List.set_cons_zero, List.set_cons_succ]
          refine wpAnyH_take (i := 18) (oi := { dst := some 23, op := Op.build 27 #[(0, Operand.tmp 7), (2, Operand.tmp 10), (1, Operand.tmp 12), (3, Operand.tmp 18), (5, Operand.tmp 20), (6, Operand.tmp 22)], type := _, pos := _, after := _, guard := _ }) (v := ?_) rfl (by kernel_rfl) (by kernel_rfl) (by kernel_rfl) (fun _ _ _ h => h) (Or.inl ⟨by rfl, ?_⟩) hHeld ?_
          rotate_left
          · intro wq hSw
            go_simp
            rfl
          try simp only [Act.put, List.setIfInBounds_toArray, List.set_cons_zero, List.set_cons_succ]
          refine wpAnyH_ready (rs := [20]) (by kernel_rfl) (by simp) ?_
          refine AllReadyH.cons (o := { dst := none, op := Op.store 27 (Operand.tmp 3) (Operand.tmp 23), type := _, pos := _, after := _, guard := _ }) rfl (fun KK hKK => ?_) AllReadyH.nil
          have hKS := Lib.hid hKK
          clear hKK
          have s7 := St.row w17 g (ic (xk (toL T) 0))
          have o7 : Nm.Own (w17.setRow g (ic (xk (toL T) 0))) g 27 (ic (xk (toL T) 0)) := setRow_heap w17 g _ _ 27 (0, 0) og
          refine st27 (X := xk (toL T) 0) rfl (.tmp 3) (.tmp 23) rfl (by simp [Act.eval, Act.put]) (by rw [HZ.out]; simp [Act.eval, Act.put]) og ?_
          have hH7 : Nm.Own (w17.setRow g (ic (xk (toL T) 0))) B 27 (ic zX) ∧ Below B w (w17.setRow g (ic (xk (toL T) 0))) := ⟨s7.own hHeld.1 (by omega), s7.below hHeld.2 (by omega)⟩
          refine hKS.out.out _ _ hH7 (fun hHeld => ?_)
          clear hKS KK s7 og hH7
          generalize World.setRow w17 g (ic (xk (toL T) 0)) = W7 at *
          try simp only [Act.put, List.setIfInBounds_toArray, List.set_cons_zero, List.set_cons_succ]
          refine wpAnyH_done (by kernel_rfl) ?_ _
          go_wp2_with fail
          go_meet
          case rel => exact ⟨g, rfl, o7, hHeld.1, hHeld.2, hgB⟩
      refine AllReadyH.cons (o := { dst := some 3, op := Op.alloc 27, type := _, pos := _, after := _, guard := _ }) rfl (fun KK hKK => ?_) AllReadyH.nil
      · have hKS := Lib.hid hKK
        clear hKK
        have og := Nm.Own.new w7 27 (ic zX)
        have hx := grow w7 (Obj.cells (ic zX) 27)
        have hgB : B < w7.heap.size := hHeld.1.lt
        go_simp
        have hH2 : Nm.Own (w7.alloc (Obj.cells (ic zX) 27)) B 27 (ic zX) ∧ Below B w (w7.alloc (Obj.cells (ic zX) 27)) := ⟨hHeld.1.below hx, hHeld.2.trans (hx.mono (hB ▸ hHeld.2.size))⟩
        refine hKS.out.out _ (w7.alloc (Obj.cells (ic zX) 27)) hH2 (fun hHeld => ?_)
        clear hKS KK hx hH2
        generalize World.alloc w7 (Obj.cells (ic zX) 27) = V19 at *
        generalize w7.heap.size = g at *
        try simp only [Act.put, List.setIfInBounds_toArray, List.set_cons_zero, List.set_cons_succ]
        refine wpAnyH_ready (rs := [9]) (by kernel_rfl) (by simp) ?_
        refine AllReadyH.cons (o := { dst := some 14, op := Op.call { callee := Callee.value (Operand.func 44), args := #[Operand.tmp 13, Operand.const (Value.int IntKind.i64 4)], argTypes := #[9, 3] }, type := _, pos := _, after := _, guard := _ }) rfl (fun KK hKK => ?_) AllReadyH.nil
        have hKS := Lib.hid hKK
        clear hKK
        go_simp
        refine (hw4 _).mono ?_
        rintro e w9 ⟨rfl, hx⟩
        go_wp2_with fail
        try replace og := og.below hx
        have hH2 : Nm.Own w9 B 27 (ic zX) ∧ Below B w w9 := ⟨hHeld.1.below hx, hHeld.2.trans (hx.mono (hB ▸ hHeld.2.size))⟩
        refine hKS.out.out _ _ hH2 (fun hHeld => ?_)
        clear hKS KK hx hH2
        try simp only [Act.put, List.setIfInBounds_toArray, List.set_cons_zero, List.set_cons_succ]
        refine wpAnyH_ready (rs := [11]) (by kernel_rfl) (by simp) ?_
        refine AllReadyH.cons (o := { dst := some 16, op := Op.call { callee := Callee.value (Operand.func 44), args := #[Operand.tmp 15, Operand.const (Value.int IntKind.i64 6)], argTypes := #[9, 3] }, type := _, pos := _, after := _, guard := _ }) rfl (fun KK hKK => ?_) AllReadyH.nil
        have hKS := Lib.hid hKK
        clear hKK
        go_simp
        refine (hw6 _).mono ?_
        rintro e w11 ⟨rfl, hx⟩
        go_wp2_with fail
        try replace og := og.below hx
        have hH2 : Nm.Own w11 B 27 (ic zX) ∧ Below B w w11 := ⟨hHeld.1.below hx, hHeld.2.trans (hx.mono (hB ▸ hHeld.2.size))⟩
        refine hKS.out.out _ _ hH2 (fun hHeld => ?_)
        clear hKS KK hx hH2
        try simp only [Act.put, List.setIfInBounds_toArray, List.set_cons_zero, List.set_cons_succ]
        refine wpAnyH_take (i := 12) (oi := { dst := some 17, op := Op.binOp BinOp.mul 3 (Operand.const (Value.int IntKind.i64 65536)) (Operand.tmp 16) 3, type := _, pos := _, after := _, guard := _ }) (v := ?_) rfl (by kernel_rfl) (by kernel_rfl) (by kernel_rfl) (fun _ _ _ h => h) (Or.inl ⟨by rfl, ?_⟩) hHeld ?_
        rotate_left
        · intro wq hSw
          go_simp
          rfl
        try simp only [Act.put, List.setIfInBounds_toArray, List.set_cons_zero, List.set_cons_succ]
        refine wpAnyH_take (i := 13) (oi := { dst := some 18, op := Op.binOp BinOp.add 3 (Operand.tmp 14) (Operand.tmp 17) 3, type := _, pos := _, after := _, guard := _ }) (v := ?_) rfl (by kernel_rfl) (by kernel_rfl) (by kernel_rfl) (fun _ _ _ h => h) (Or.inl ⟨by rfl, ?_⟩) hHeld ?_
        rotate_left
        · intro wq hSw
          go_simp
          rfl
        try simp only [Act.put, List.setIfInBounds_toArray, List.set_cons_zero, List.set_cons_succ]
        refine wpAnyH_ready (rs := [15]) (by kernel_rfl) (by simp) ?_
        refine AllReadyH.cons (o := { dst := some 20, op := Op.call { callee := Callee.value (Operand.func 44), args := #[Operand.tmp 19, Operand.const (Value.int IntKind.i64 20)], argTypes := #[9, 3] }, type := _, pos := _, after := _, guard := _ }) rfl (fun KK hKK => ?_) AllReadyH.nil
        have hKS := Lib.hid hKK
        clear hKK
        go_simp
        refine (hw20 _).mono ?_
        rintro e w15 ⟨rfl, hx⟩
        go_wp2_with fail
        try replace og := og.below hx
        have hH2 : Nm.Own w15 B 27 (ic zX) ∧ Below B w w15 := ⟨hHeld.1.below hx, hHeld.2.trans (hx.mono (hB ▸ hHeld.2.size))⟩
        refine hKS.out.out _ _ hH2 (fun hHeld => ?_)
        clear hKS KK hx hH2
        try simp only [Act.put, List.setIfInBounds_toArray, List.set_cons_zero, List.set_cons_succ]
        refine wpAnyH_ready (rs := [17]) (by kernel_rfl) (by simp) ?_
        refine AllReadyH.cons (o := { dst := some 22, op := Op.call { callee := Callee.value (Operand.func 44), args := #[Operand.tmp 21, Operand.const (Value.int IntKind.i64 22)], argTypes := #[9, 3] }, type := _, pos := _, after := _, guard := _ }) rfl (fun KK hKK => ?_) AllReadyH.nil
        have hKS := Lib.hid hKK
        clear hKK
        go_simp
        refine (hw22 _).mono ?_
        rintro e w17 ⟨rfl, hx⟩
        go_wp2_with fail
        try replace og := og.below hx
        have hH2 : Nm.Own w17 B 27 (ic zX) ∧ Below B w w17 := ⟨hHeld.1.below hx, hHeld.2.trans (hx.mono (hB ▸ hHeld.2.size))⟩
        refine hKS.out.out _ _ hH2 (fun hHeld => ?_)
        clear hKS KK hx hH2
        try simp only [Act.put, List.setIfInBounds_toArray, List.set_cons_zero, List.set_cons_succ]
        refine wpAnyH_take (i := 18) (oi := { dst := some 23, op := Op.build 27 #[(0, Operand.tmp 7), (2, Operand.tmp 10), (1, Operand.tmp 12), (3, Operand.tmp 18), (5, Operand.tmp 20), (6, Operand.tmp 22)], type := _, pos := _, after := _, guard := _ }) (v := ?_) rfl (by kernel_rfl) (by kernel_rfl) (by kernel_rfl) (fun _ _ _ h => h) (Or.inl ⟨by rfl, ?_⟩) hHeld ?_
        rotate_left
        · intro wq hSw
          go_simp
          rfl
        try simp only [Act.put, List.setIfInBounds_toArray, List.set_cons_zero, List.set_cons_succ]
        refine wpAnyH_ready (rs := [20]) (by kernel_rfl) (by simp) ?_
        refine AllReadyH.cons (o := { dst := none, op := Op.store 27 (Operand.tmp 3) (Operand.tmp 23), type := _, pos := _, after := _, guard := _ }) rfl (fun KK hKK => ?_) AllReadyH.nil
        have hKS := Lib.hid hKK
        clear hKK
        have s7 := St.row w17 g (ic (xk (toL T) 0))
        have o7 : Nm.Own (w17.setRow g (ic (xk (toL T) 0))) g 27 (ic (xk (toL T) 0)) := setRow_heap w17 g _ _ 27 (0, 0) og
        refine st27 (X := xk (toL T) 0) rfl (.tmp 3) (.tmp 23) rfl (by simp [Act.eval, Act.put]) (by rw [HZ.out]; simp [Act.eval, Act.put]) og ?_
        have hH7 : Nm.Own (w17.setRow g (ic (xk (toL T) 0))) B 27 (ic zX) ∧ Below B w (w17.setRow g (ic (xk (toL T) 0))) := ⟨s7.own hHeld.1 (by omega), s7.below hHeld.2 (by omega)⟩
        refine hKS.out.out _ _ hH7 (fun hHeld => ?_)
        clear hKS KK s7 og hH7
        generalize World.setRow w17 g (ic (xk (toL T) 0)) = W7 at *
        try simp only [Act.put, List.setIfInBounds_toArray, List.set_cons_zero, List.set_cons_succ]
        refine wpAnyH_done (by kernel_rfl) ?_ _
        go_wp2_with fail
        go_meet
        case rel => exact ⟨g, rfl, o7, hHeld.1, hHeld.2, hgB⟩
    refine AllReadyH.cons (o := { dst := some 3, op := Op.alloc 27, type := _, pos := _, after := _, guard := _ }) rfl (fun KK hKK => ?_) AllReadyH.nil
    · have hKS := Lib.hid hKK
      clear hKK
      have og := Nm.Own.new V0 27 (ic zX)
      have hx := grow V0 (Obj.cells (ic zX) 27)
      have hgB : B < V0.heap.size := hHeld.1.lt
      go_simp
      have hH2 : Nm.Own (V0.alloc (Obj.cells (ic zX) 27)) B 27 (ic zX) ∧ Below B w (V0.alloc (Obj.cells (ic zX) 27)) := ⟨hHeld.1.below hx, hHeld.2.trans (hx.mono (hB ▸ hHeld.2.size))⟩
      refine hKS.out.out _ (V0.alloc (Obj.cells (ic zX) 27)) hH2 (fun hHeld => ?_)
      clear hKS KK hx hH2
      generalize World.alloc V0 (Obj.cells (ic zX) 27) = V19 at *
      generalize V0.heap.size = g at *
      try simp only [Act.put, List.setIfInBounds_toArray, List.set_cons_zero, List.set_cons_succ]
      refine wpAnyH_ready (rs := [7]) (by kernel_rfl) (by simp) ?_
      refine AllReadyH.cons (o := { dst := some 12, op := Op.call { callee := Callee.value (Operand.func 44), args := #[Operand.tmp 11, Operand.const (Value.int IntKind.i64 2)], argTypes := #[9, 3] }, type := _, pos := _, after := _, guard := _ }) rfl (fun KK hKK => ?_) AllReadyH.nil
      have hKS := Lib.hid hKK
      clear hKK
      go_simp
      refine (hw2 _).mono ?_
      rintro e w7 ⟨rfl, hx⟩
      go_wp2_with fail
      try replace og := og.below hx
      have hH2 : Nm.Own w7 B 27 (ic zX) ∧ Below B w w7 := ⟨hHeld.1.below hx, hHeld.2.trans (hx.mono (hB ▸ hHeld.2.size))⟩
      refine hKS.out.out _ _ hH2 (fun hHeld => ?_)
      clear hKS KK hx hH2
      try simp only [Act.put, List.setIfInBounds_toArray, List.set_cons_zero, List.set_cons_succ]
      refine wpAnyH_ready (rs := [9]) (by kernel_rfl) (by simp) ?_
      refine AllReadyH.cons (o := { dst := some 14, op := Op.call { callee := Callee.value (Operand.func 44), args := #[Operand.tmp 13, Operand.const (Value.int IntKind.i64 4)], argTypes := #[9, 3] }, type := _, pos := _, after := _, guard := _ }) rfl (fun KK hKK => ?_) AllReadyH.nil
      have hKS := Lib.hid hKK
      clear hKK
      go_simp
      refine (hw4 _).mono ?_
      rintro e w9 ⟨rfl, hx⟩
      go_wp2_with fail
      try replace og := og.below hx
      have hH2 : Nm.Own w9 B 27 (ic zX) ∧ Below B w w9 := ⟨hHeld.1.below hx, hHeld.2.trans (hx.mono (hB ▸ hHeld.2.size))⟩
      refine hKS.out.out _ _ hH2 (fun hHeld => ?_)
      clear hKS KK hx hH2
      try simp only [Act.put, List.setIfInBounds_toArray, List.set_cons_zero, List.set_cons_succ]
      refine wpAnyH_ready (rs := [11]) (by kernel_rfl) (by simp) ?_
      refine AllReadyH.cons (o := { dst := some 16, op := Op.call { callee := Callee.value (Operand.func 44), args := #[Operand.tmp 15, Operand.const (Value.int IntKind.i64 6)], argTypes := #[9, 3] }, type := _, pos := _, after := _, guard := _ }) rfl (fun KK hKK => ?_) AllReadyH.nil
      have hKS := Lib.hid hKK
      clear hKK
      go_simp
      refine (hw6 _).mono ?_
      rintro e w11 ⟨rfl, hx⟩
      go_wp2_with fail
      try replace og := og.below hx
      have hH2 : Nm.Own w11 B 27 (ic zX) ∧ Below B w w11 := ⟨hHeld.1.below hx, hHeld.2.trans (hx.mono (hB ▸ hHeld.2.size))⟩
      refine hKS.out.out _ _ hH2 (fun hHeld => ?_)
      clear hKS KK hx hH2
      try simp only [Act.put, List.setIfInBounds_toArray, List.set_cons_zero, List.set_cons_succ]
      refine wpAnyH_take (i := 12) (oi := { dst := some 17, op := Op.binOp BinOp.mul 3 (Operand.const (Value.int IntKind.i64 65536)) (Operand.tmp 16) 3, type := _, pos := _, after := _, guard := _ }) (v := ?_) rfl (by kernel_rfl) (by kernel_rfl) (by kernel_rfl) (fun _ _ _ h => h) (Or.inl ⟨by rfl, ?_⟩) hHeld ?_
      rotate_left
      · intro wq hSw
        go_simp
        rfl
      try simp only [Act.put, List.setIfInBounds_toArray, List.set_cons_zero, List.set_cons_succ]
      refine wpAnyH_take (i := 13) (oi := { dst := some 18, op := Op.binOp BinOp.add 3 (Operand.tmp 14) (Operand.tmp 17) 3, type := _, pos := _, after := _, guard := _ }) (v := ?_) rfl (by kernel_rfl) (by kernel_rfl) (by kernel_rfl) (fun _ _ _ h => h) (Or.inl ⟨by rfl, ?_⟩) hHeld ?_
      rotate_left
      · intro wq hSw
        go_simp
        rfl
      try simp only [Act.put, List.setIfInBounds_toArray, List.set_cons_zero, List.set_cons_succ]
      refine wpAnyH_ready (rs := [15]) (by kernel_rfl) (by simp) ?_
      refine AllReadyH.cons (o := { dst := some 20, op := Op.call { callee := Callee.value (Operand.func 44), args := #[Operand.tmp 19, Operand.const (Value.int IntKind.i64 20)], argTypes := #[9, 3] }, type := _, pos := _, after := _, guard := _ }) rfl (fun KK hKK => ?_) AllReadyH.nil
      have hKS := Lib.hid hKK
      clear hKK
      go_simp
      refine (hw20 _).mono ?_
      rintro e w15 ⟨rfl, hx⟩
      go_wp2_with fail
      try replace og := og.below hx
      have hH2 : Nm.Own w15 B 27 (ic zX) ∧ Below B w w15 := ⟨hHeld.1.below hx, hHeld.2.trans (hx.mono (hB ▸ hHeld.2.size))⟩
      refine hKS.out.out _ _ hH2 (fun hHeld => ?_)
      clear hKS KK hx hH2
      try simp only [Act.put, List.setIfInBounds_toArray, List.set_cons_zero, List.set_cons_succ]
      refine wpAnyH_ready (rs := [17]) (by kernel_rfl) (by simp) ?_
      refine AllReadyH.cons (o := { dst := some 22, op := Op.call { callee := Callee.value (Operand.func 44), args := #[Operand.tmp 21, Operand.const (Value.int IntKind.i64 22)], argTypes := #[9, 3] }, type := _, pos := _, after := _, guard := _ }) rfl (fun KK hKK => ?_) AllReadyH.nil
      have hKS := Lib.hid hKK
      clear hKK
      go_simp
      refine (hw22 _).mono ?_
      rintro e w17 ⟨rfl, hx⟩
      go_wp2_with fail
      try replace og := og.below hx
      have hH2 : Nm.Own w17 B 27 (ic zX) ∧ Below B w w17 := ⟨hHeld.1.below hx, hHeld.2.trans (hx.mono (hB ▸ hHeld.2.size))⟩
      refine hKS.out.out _ _ hH2 (fun hHeld => ?_)
      clear hKS KK hx hH2
      try simp only [Act.put, List.setIfInBounds_toArray, List.set_cons_zero, List.set_cons_succ]
      refine wpAnyH_take (i := 18) (oi := { dst := some 23, op := Op.build 27 #[(0, Operand.tmp 7), (2, Operand.tmp 10), (1, Operand.tmp 12), (3, Operand.tmp 18), (5, Operand.tmp 20), (6, Operand.tmp 22)], type := _, pos := _, after := _, guard := _ }) (v := ?_) rfl (by kernel_rfl) (by kernel_rfl) (by kernel_rfl) (fun _ _ _ h => h) (Or.inl ⟨by rfl, ?_⟩) hHeld ?_
      rotate_left
      · intro wq hSw
        go_simp
        rfl
      try simp only [Act.put, List.setIfInBounds_toArray, List.set_cons_zero, List.set_cons_succ]
      refine wpAnyH_ready (rs := [20]) (by kernel_rfl) (by simp) ?_
      refine AllReadyH.cons (o := { dst := none, op := Op.store 27 (Operand.tmp 3) (Operand.tmp 23), type := _, pos := _, after := _, guard := _ }) rfl (fun KK hKK => ?_) AllReadyH.nil
      have hKS := Lib.hid hKK
      clear hKK
      have s7 := St.row w17 g (ic (xk (toL T) 0))
      have o7 : Nm.Own (w17.setRow g (ic (xk (toL T) 0))) g 27 (ic (xk (toL T) 0)) := setRow_heap w17 g _ _ 27 (0, 0) og
      refine st27 (X := xk (toL T) 0) rfl (.tmp 3) (.tmp 23) rfl (by simp [Act.eval, Act.put]) (by rw [HZ.out]; simp [Act.eval, Act.put]) og ?_
      have hH7 : Nm.Own (w17.setRow g (ic (xk (toL T) 0))) B 27 (ic zX) ∧ Below B w (w17.setRow g (ic (xk (toL T) 0))) := ⟨s7.own hHeld.1 (by omega), s7.below hHeld.2 (by omega)⟩
      refine hKS.out.out _ _ hH7 (fun hHeld => ?_)
      clear hKS KK s7 og hH7
      generalize World.setRow w17 g (ic (xk (toL T) 0)) = W7 at *
      try simp only [Act.put, List.setIfInBounds_toArray, List.set_cons_zero, List.set_cons_succ]
      refine wpAnyH_done (by kernel_rfl) ?_ _
      go_wp2_with fail
      go_meet
      case rel => exact ⟨g, rfl, o7, hHeld.1, hHeld.2, hgB⟩
  case rest =>
    obtain ⟨g, rfl, og, oB, hb1, hgB⟩ := hcut
    clear hw2 hw4 hw6 hw20 hw22 HZ o0 hb0 e0 e1 e2 e3
    go_wp2_with fail
    go_loopw [4] (fun i wr => ∃ k : Nat, k ≤ 6 ∧ i = .int .i64 k ∧ Nm.Own wr g 27 (ic (xk (toL T) k)) ∧ Nm.Own wr B 27 (ic zX) ∧ Below B w wr) (fun i _ => 6 - (intOf i).toNat)
    case atStart => exact ⟨0, by omega, rfl, og, oB, hb1⟩
    case round =>
      clear og oB hb1
      obtain ⟨k, hk, rfl, og, oB, hb1⟩ := hrel
      by_cases hlt : k < 6
      · have hwk := hw (8 + 2 * k) (by omega)
        have hlk := wd_lt (toL T) (8 + 2 * k)
        have hnx := xk_next (toL T) hlt
        generalize wd (toL T) (8 + 2 * k) = v at *
        have c1 : ((8 + 2 * k : Nat) : Int) = 8 + 2 * (k : Int) := by omega
        rw [c1] at hwk
        have e1 : IntKind.i64.wrap (2 * (k : Int)) = 2 * (k : Int) := IntWalk.i64_in _ (by omega)
        have e2 : IntKind.i64.wrap (8 + 2 * (k : Int)) = 8 + 2 * (k : Int) := IntWalk.i64_in _ (by omega)
        have e3 : IntKind.i64.wrap ((k : Int) + 1) = (k : Int) + 1 := IntWalk.i64_in _ (by omega)
        have k0 : (k : Int) < 6 := by omega
        have k1 : 0 ≤ (k : Int) := by omega
        clear hw c1
        go_wp2_with fail
        refine (hwk _).mono ?_
        rintro e w5 ⟨rfl, hx⟩
        have og5 := og.below hx
        have oB5 := oB.below hx
        have hb5 := hb1.trans (hx.mono (hB ▸ hb1.size))
        have cl4 : Ni.cl (4 + k) = 4 + k := by unfold Ni.cl; rw [if_neg (by omega), if_neg (by omega)]
        have f5 := og5.frozen (4 + k)
        have y5 : w5.cell? ⟨g, 4 + k, none⟩ = some (.int .i64 (xk (toL T) k (4 + k))) := by
          have := (og5.cell (Ni.cl (4 + k))).trans (ic_get _ (4 + k) (by omega))
          rwa [cl4] at this
        have og6 := og5.set (4 + k) (.int .i64 (v : Nat))
        have hs := ic_set (xk (toL T) k) (v : Nat) (4 + k) (by omega)
        rw [cl4] at hs
        rw [hs, hnx] at og6
        have oB6 := oB5.other (a := ⟨g, 4 + k, none⟩) (by simp; omega) (.int .i64 (v : Nat))
        have hb6 := hb5.setCell (p := ⟨g, 4 + k, none⟩) (by simp; omega) (.int .i64 (v : Nat))
        have HH := Lib.hid (And.intro og6 (And.intro oB6 hb6))
        clear og oB hb1 hx og5 oB5 hb5 hs hnx og6 oB6 hb6 cl4 hwk
        go_wp2_with fail
        go_roundw
        case rel => exact ⟨k + 1, by omega, by go_num, HH.out.1, HH.out.2.1, HH.out.2.2⟩
        case measure => simp [intOf]; omega
      · obtain rfl : k = 6 := by omega
        rw [xk_all] at og
        clear hw
        go_wp2_with (first | refine ld27 rfl rfl rfl og ?_ | (refine sto27 rfl rfl rfl rfl oB ?_; intro w5 o5 s5))
        exact res27 rfl rfl o5 rfl ⟨rfl, by rw [hB]; exact s5.below hb1 (Nat.le_refl _)⟩
end Dw
end Go.Proofs.YtambgmjiafcokaaDoor
