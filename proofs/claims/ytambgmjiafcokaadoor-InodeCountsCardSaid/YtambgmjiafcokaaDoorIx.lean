/-
  THE WALK of the document's putting of an inode (Put).
-/
import Derived.Test.YtambgmjiafcokaaDoorIw
namespace Go.Proofs.YtambgmjiafcokaaDoor
set_option linter.unusedVariables false
set_option maxRecDepth 100000
set_option linter.unusedSimpArgs false
open Go.RowKit
namespace Dw
open _root_.Go.Proofs.YtambgmjiafcokaaDoor.Nm
theorem yl27 {ops : Array Oper} {S : World → Prop} {o : Oper} {a : Act} (hw : Region.wanted o (yielded ops a.tmps) = true) (x : Operand) (ho : o.op = .load 27 x) (g : Nat)
    (hx : a.eval x = .pointer (some ⟨g, 0, none⟩)) {X : Nat → Int} (hS : ∀ w, S w → Nm.Own w g 27 (ic X)) : YieldsIf Tryd.prog ops S o (.agg (ic X)) a :=
  .inl ⟨hw, fun w hw' => by
    unfold execOp
    simp only [ho, hx, Instr.loadAt, Instr.sureAddr, Sem.run_bind, Sem.run_pure, Result.andThen_ok, run_loadVar_row w g 27 27 (ic X) (0, 0) _ (hS w hw') Tryd.underlying27 rfl (by rw [ic_size]; exact info27)]⟩
theorem ins_low (T U : ByteArray) (X : Nat → Int) (hT : T.size = 128) (hU : (toL U).take 24 = Ni.enc X 12) (hUs : U.size = 64) : U.extract 0 24 ++ T.extract 24 128 = insT T 0 X := by
  apply toL_inj
  rw [toL_ins, toL_app', toL_extract, toL_extract]
  unfold Ni.ins
  rw [List.drop_zero, hU, List.take_zero, List.nil_append]
  congr 1
  rw [show 128 - 24 = ((toL T).drop (0 + 24)).length by rw [List.length_drop, toL_length, hT]]
  exact List.take_length
theorem ins_high (T U : ByteArray) (X : Nat → Int) (hT : T.size = 128) (hU : (toL U).take 24 = Ni.enc X 12) (hUs : U.size = 64) : T.extract 0 64 ++ U.extract 0 24 ++ T.extract 88 128 = insT T 64 X := by
  apply toL_inj
  rw [toL_ins, toL_app', toL_app', toL_extract, toL_extract, toL_extract]
  unfold Ni.ins
  rw [List.drop_zero, List.drop_zero, hU, List.append_assoc]
  congr 2
  rw [show 128 - 88 = ((toL T).drop (64 + 24)).length by rw [List.length_drop, toL_length, hT]]
  exact List.take_length
set_option maxHeartbeats 4000000 in
theorem rput_iany (A : Option Addr) (m c : Nat) (l : List ByteArray) (n : Int) (X : Nat → Int) (w : World) (hl : Tz w A m c l) (hL : Lit l m) :
    Calls Tryd.prog 17 #[.slice A m c, .int .i64 n, .agg (ic X)] w fun e w' => PutIs l n X w.heap.size e w' ∧ Below w.heap.size w w' := by
  obtain ⟨B, hB⟩ : ∃ B, w.heap.size = B := ⟨_, rfl⟩
  have o0 := Nm.Own.new w 27 (ic X)
  have b0 := grow w (Obj.cells (ic X) 27)
  have hl0 := hl.below b0
  have hof := fun wr (h : Tz wr A m c l) => rof_any A m c l wr h hL
  rw [hB] at o0 b0
  go_enter Tryd.func17, Tryd.ntmps17
  go_wp2_with fail
  refine (hof _ hl0).mono ?_
  rintro e w1 ⟨hof, hx⟩
  have o1 := o0.below hx
  have b1 := b0.trans (hx.mono (hB ▸ b0.size))
  have og := Nm.Own.new w1 58 gz
  have o2 := o1.alloc (Obj.cells gz 58)
  have hb2 := b1.alloc (by have := b1.size; omega) (Obj.cells gz 58)
  have hlt := o1.lt
  clear o0 b0 hl0 hx o1
  rcases hof with ⟨b, y, hv, rfl⟩ | ⟨hv, rfl⟩
  · have HV := Lib.hid hv
    go_wp2_with (refine sto24 (cs := gc b y) rfl rfl rfl rfl og (gc_one _ _) gz_one ?_)
    intro w5 o5 s5
    have hb5 := s5.below hb2 (by omega)
    have oB := s5.own o2 (by omega)
    clear hb2 og s5 o2 b1
    generalize w1.heap.size = g at *
    have d1 : w5.cell? ⟨g, 1, none⟩ = some (.int .i64 (y : Int)) := o5.cell 1
    have d4 : w5.cell? ⟨g, 4, none⟩ = some (.int .i64 3) := o5.cell 4
    have hy := hv.lt
    by_cases h1 : n < 1
    · have HN := Lib.hid h1
      clear hv
      go_wp2_with fail
      refine bodyPost_ret (v := .tuple #[.slice none 0 0, .int .i64 2]) (by simp [results, Tryd.results17, go_sem]) rfl ?_
      exact ⟨.inr (.inl ⟨b, y, HV.out, .inl HN.out, rfl⟩), by first | exact hb5 | (rw [hB]; exact hb5)⟩
    · by_cases h2 : (y : Int) < n
      · have HN := Lib.hid h2
        clear hv
        go_wp2_with fail
        refine bodyPost_ret (v := .tuple #[.slice none 0 0, .int .i64 2]) (by simp [results, Tryd.results17, go_sem]) rfl ?_
        exact ⟨.inr (.inl ⟨b, y, HV.out, .inr HN.out, rfl⟩), by first | exact hb5 | (rw [hB]; exact hb5)⟩
      · obtain ⟨j, rfl⟩ := Int.eq_ofNat_of_zero_le (show 0 ≤ n by omega)
        have HJ := Lib.hid (show 1 ≤ j ∧ j ≤ y by omega)
        have hbk := bk_lt hv (show 1 ≤ j by omega) (show j ≤ y by omega)
        have hmb : l.length = m := hl.t.1
        obtain rfl : m = b := hmb.symm.trans hv.len
        have hl5 := hl.below (hB ▸ hb5)
        have hft := fun wr => rfits_any X wr
        go_wp2_with (refine ld27 rfl rfl rfl oB ?_)
        refine (hft _).mono ?_
        rintro e w6 ⟨⟨v, rfl, hvf⟩, hx6⟩
        have HF := Lib.hid hvf
        have oB6 := oB.below hx6
        have og6 := o5.below hx6
        have hb6 := hb5.trans (hx6.mono (hB ▸ hb5.size))
        have hl6 := hl5.below hx6
        clear hvf hft oB o5 hb5 hl5 hx6 d1 d4
        cases v
        · go_wp2_with fail
          refine bodyPost_ret (v := .tuple #[.slice none 0 0, .int .i64 1]) (by simp [results, Tryd.results17, go_sem]) rfl ?_
          exact ⟨.inr (.inr (.inl ⟨m, y, j, HV.out, rfl, HJ.out.1, HJ.out.2, (fun h => nomatch HF.out.2 h), rfl⟩)), by first | exact hb6 | (rw [hB]; exact hb6)⟩
        · have HFT := Lib.hid (HF.out.1 rfl)
          have hg7 := grow w6 (Obj.cells #[] 9)
          have hl7 := hl6.below hg7
          have r0 : RS (w6.alloc (Obj.cells #[] 9)) w6.heap.size (some ⟨w6.heap.size, 0, none⟩) 0 0 [] := RS.empty (Nm.Own.new w6 9 #[]) (Nat.le_refl _)
          have oB7 := oB6.below hg7
          have og7 := og6.below hg7
          have hb7 := hb6.trans (hg7.mono (hB ▸ hb6.size))
          have hlt6 := og6.lt
          have hs6 : w.heap.size ≤ w6.heap.size := hb6.size
          clear hl6 oB6 og6 hb6 hg7
          go_wp2_with (at_builtin; refine app_all rfl _ _ rfl w6.heap.size _ _ rfl r0 _ _ _ _ rfl hl7 (by simp) ?_)
          intro A' c' w8 hr hx8
          obtain ⟨gr, rfl, hg1, hg2⟩ : ∃ g, A' = some ⟨g, 0, none⟩ ∧ w6.heap.size ≤ g ∧ g < w8.heap.size := by
            rcases hr.form with ⟨_, h0, _⟩ | h0
            · omega
            · exact h0
          have oB8 := (hx8.block B (by omega)).trans oB7
          have og8 := (hx8.block g (by omega)).trans og7
          have hB6 : B ≤ w6.heap.size := by omega
          have hb8 : Below B w w8 := hb7.trans (hx8.mono hB6)
          have d4 : w8.cell? ⟨g, 4, none⟩ = some (.int .i64 3) := Nm.Own.cell og8 4
          obtain ⟨b0, off, rfl, hcell⟩ := hl.t.2 (by omega)
          have hb0 : b0 < w.heap.size := World.block_lt_of_cell? _ _ (hcell 0 (by omega))
          have hcT := (hb8.cell (p := ⟨b0, off + bk j, none⟩) (show b0 < B by omega)).trans (hcell (bk j) (by omega))
          have hsT : (nth l (bk j)).size = 128 := hv.blk _ (by omega)
          have hKm : (bk j : Int) < (m : Int) := by omega
          have hput := hr.put (bk j)
          have HX := Lib.hid (show putL l j X = l.set (bk j) (insT (nth l (bk j)) (pl j) X) from rfl)
          obtain ⟨q, hq⟩ : ∃ q, q = j - 1 := ⟨_, rfl⟩
          have hJ := HJ.out
          have e1 : IntKind.i64.wrap ((j : Int) - 1) = (q : Int) := by rw [IntWalk.i64_in _ (by omega)]; omega
          have e2 : (q : Int).tdiv 2 = ((q / 2 : Nat) : Int) := rfl
          have e2' : (q : Int) / 2 = ((q / 2 : Nat) : Int) := rfl
          have hbj : bk j = 3 + q / 2 := by unfold bk; rw [hq]
          have hpj : pl j = 64 * (q % 2) := by unfold pl; rw [hq]
          have e3 : (j : Int).tmod 2 = ((j % 2 : Nat) : Int) := rfl
          have e3' : (j : Int) % 2 = ((j % 2 : Nat) : Int) := rfl
          generalize nth l (bk j) = T at *
          rw [hbj] at hcT hKm HX
          have hQ2 : q / 2 < 64 := by omega
          have hQm : 3 + q / 2 < m := by omega
          have hby := fun wr => rbytes_any X wr HFT.out
          have f8 := hr.frozen (3 + q / 2)
          clear hbj hbk hcell hv hput hl7 oB7 og7 hb7 r0 og8
          generalize q / 2 = Q at *
          have f1 : IntKind.i64.wrap (Q : Int) = (Q : Int) := IntWalk.i64_in _ (by omega)
          have f2 : IntKind.i64.wrap (3 + (Q : Int)) = 3 + (Q : Int) := IntWalk.i64_in _ (by omega)
          have f6 : (3 + (Q : Int)).toNat = 3 + Q := by omega
          have g1 : (3 : Int) + (Q : Int) < (m : Int) := by omega
          have g2 : 0 ≤ (3 : Int) + (Q : Int) := by omega
          have hgB : gr ≠ B := by omega
          have hgb : gr ≠ b0 := by omega
          rcases Nat.mod_two_eq_zero_or_one j with hj2 | hj2
          · have hp0 : pl j = 64 := by omega
            rw [hj2] at e3 e3'
            rw [hp0] at HX
            clear hj2 hpj hp0 hq hJ
            go_wp2_with fail
            refine wp_region_held_drew (S := fun V => Nm.Own V B 27 (ic X) ∧ Below B w V ∧ V.cell? ⟨b0, off + (3 + Q), none⟩ = some (.string T)) (by kernel_rfl) ⟨oB8, hb8.drew, hcT⟩ (fun hHeld => ?_)
            replace hr : RS w8.drew _ _ _ _ _ := hr
            generalize w8.drew = V0 at *
            clear oB8 hb8 hcT f8
            refine wpAnyH_take (i := 0) (oi := { dst := some 55, op := Op.move (Operand.tmp 10), type := _, pos := _, after := _, guard := _ }) (v := ?_) rfl (by kernel_rfl) (by kernel_rfl) (by kernel_rfl) (fun _ _ _ h => h) (Or.inl ⟨by rfl, ?_⟩) hHeld ?_
            rotate_left
            · intro wq hSw
              go_simp
              rfl
            try simp only [Act.put, List.setIfInBounds_toArray, List.set_cons_zero, List.set_cons_succ]
            refine wpAnyH_take (i := 1) (oi := { dst := some 56, op := Op.move (Operand.tmp 11), type := _, pos := _, after := _, guard := _ }) (v := ?_) rfl (by kernel_rfl) (by kernel_rfl) (by kernel_rfl) (fun _ _ _ h => h) (Or.inl ⟨by rfl, ?_⟩) hHeld ?_
            rotate_left
            · intro wq hSw
              go_simp
              rfl
            try simp only [Act.put, List.setIfInBounds_toArray, List.set_cons_zero, List.set_cons_succ]
            refine wpAnyH_take (i := 2) (oi := { dst := some 57, op := Op.move (Operand.tmp 0), type := _, pos := _, after := _, guard := _ }) (v := ?_) rfl (by kernel_rfl) (by kernel_rfl) (by kernel_rfl) (fun _ _ _ h => h) (Or.inl ⟨by rfl, ?_⟩) hHeld ?_
            rotate_left
            · intro wq hSw
              go_simp
              rfl
            try simp only [Act.put, List.setIfInBounds_toArray, List.set_cons_zero, List.set_cons_succ]
            refine wpAnyH_take (i := 3) (oi := { dst := some 58, op := Op.move (Operand.tmp 11), type := _, pos := _, after := _, guard := _ }) (v := ?_) rfl (by kernel_rfl) (by kernel_rfl) (by kernel_rfl) (fun _ _ _ h => h) (Or.inl ⟨by rfl, ?_⟩) hHeld ?_
            rotate_left
            · intro wq hSw
              go_simp
              rfl
            try simp only [Act.put, List.setIfInBounds_toArray, List.set_cons_zero, List.set_cons_succ]
            refine wpAnyH_take (i := 4) (oi := { dst := some 59, op := Op.indexAddr 22 (Operand.tmp 57) (Operand.tmp 58), type := _, pos := _, after := _, guard := _ }) (v := ?_) rfl (by kernel_rfl) (by kernel_rfl) (by kernel_rfl) (fun _ _ _ h => h) (Or.inl ⟨by rfl, ?_⟩) hHeld ?_
            rotate_left
            · intro wq hSw
              go_simp
              rfl
            try simp only [Act.put, List.setIfInBounds_toArray, List.set_cons_zero, List.set_cons_succ]
            refine wpAnyH_take (i := 5) (oi := { dst := some 60, op := Op.load 9 (Operand.tmp 59), type := _, pos := _, after := _, guard := _ }) (v := ?_) rfl (by kernel_rfl) (by kernel_rfl) (by kernel_rfl) (fun _ _ _ h => h) (Or.inl ⟨by rfl, ?_⟩) hHeld ?_
            rotate_left
            · intro wq hSw
              obtain ⟨s1, s2, s3⟩ := hSw
              go_simp
              rfl
            try simp only [Act.put, List.setIfInBounds_toArray, List.set_cons_zero, List.set_cons_succ]
            refine wpAnyH_take (i := 6) (oi := { dst := some 61, op := Op.slice 9 (Operand.tmp 60) none (some (Operand.const (Value.int IntKind.i64 64))) none, type := _, pos := _, after := _, guard := _ }) (v := ?_) rfl (by kernel_rfl) (by kernel_rfl) (by kernel_rfl) (fun _ _ _ h => h) (Or.inl ⟨by rfl, ?_⟩) hHeld ?_
            rotate_left
            · intro wq hSw
              go_simp
              rfl
            try simp only [Act.put, List.setIfInBounds_toArray, List.set_cons_zero, List.set_cons_succ]
            refine wpAnyH_take (i := 7) (oi := { dst := some 62, op := Op.load 27 (Operand.tmp 5), type := _, pos := _, after := _, guard := _ }) rfl (by kernel_rfl) (by kernel_rfl) (by kernel_rfl) (fun _ _ _ h => h) (yl27 (by kernel_rfl) _ rfl _ rfl (fun w1 h => h.1)) hHeld ?_
            try simp only [Act.put, List.setIfInBounds_toArray, List.set_cons_zero, List.set_cons_succ]
            refine wpAnyH_take (i := 11) (oi := { dst := some 66, op := Op.move (Operand.tmp 0), type := _, pos := _, after := _, guard := _ }) (v := ?_) rfl (by kernel_rfl) (by kernel_rfl) (by kernel_rfl) (fun _ _ _ h => h) (Or.inl ⟨by rfl, ?_⟩) hHeld ?_
            rotate_left
            · intro wq hSw
              go_simp
              rfl
            try simp only [Act.put, List.setIfInBounds_toArray, List.set_cons_zero, List.set_cons_succ]
            refine wpAnyH_take (i := 12) (oi := { dst := some 67, op := Op.move (Operand.tmp 11), type := _, pos := _, after := _, guard := _ }) (v := ?_) rfl (by kernel_rfl) (by kernel_rfl) (by kernel_rfl) (fun _ _ _ h => h) (Or.inl ⟨by rfl, ?_⟩) hHeld ?_
            rotate_left
            · intro wq hSw
              go_simp
              rfl
            try simp only [Act.put, List.setIfInBounds_toArray, List.set_cons_zero, List.set_cons_succ]
            refine wpAnyH_take (i := 13) (oi := { dst := some 68, op := Op.indexAddr 22 (Operand.tmp 66) (Operand.tmp 67), type := _, pos := _, after := _, guard := _ }) (v := ?_) rfl (by kernel_rfl) (by kernel_rfl) (by kernel_rfl) (fun _ _ _ h => h) (Or.inl ⟨by rfl, ?_⟩) hHeld ?_
            rotate_left
            · intro wq hSw
              go_simp
              rfl
            try simp only [Act.put, List.setIfInBounds_toArray, List.set_cons_zero, List.set_cons_succ]
            refine wpAnyH_take (i := 14) (oi := { dst := some 69, op := Op.load 9 (Operand.tmp 68), type := _, pos := _, after := _, guard := _ }) (v := ?_) rfl (by kernel_rfl) (by kernel_rfl) (by kernel_rfl) (fun _ _ _ h => h) (Or.inl ⟨by rfl, ?_⟩) hHeld ?_
            rotate_left
            · intro wq hSw
              obtain ⟨s1, s2, s3⟩ := hSw
              go_simp
              rfl
            try simp only [Act.put, List.setIfInBounds_toArray, List.set_cons_zero, List.set_cons_succ]
            refine wpAnyH_take (i := 15) (oi := { dst := some 70, op := Op.slice 9 (Operand.tmp 69) (some (Operand.const (Value.int IntKind.i64 88))) none none, type := _, pos := _, after := _, guard := _ }) (v := ?_) rfl (by kernel_rfl) (by kernel_rfl) (by kernel_rfl) (fun _ _ _ h => h) (Or.inl ⟨by rfl, ?_⟩) hHeld ?_
            rotate_left
            · intro wq hSw
              go_simp
              rfl
            try simp only [Act.put, List.setIfInBounds_toArray, List.set_cons_zero, List.set_cons_succ]
            refine wpAnyH_ready (rs := [8]) (by kernel_rfl) (by simp) ?_
            refine AllReadyH.cons (o := { dst := some 63, op := Op.call { callee := Callee.value (Operand.func 33), args := #[Operand.tmp 62], argTypes := #[27] }, type := _, pos := _, after := _, guard := _ }) rfl (fun KK hKK => ?_) AllReadyH.nil
            have hKS := Lib.hid hKK
            clear hKK
            go_simp
            refine (hby _).mono ?_
            rintro e w8 ⟨⟨U, rfl, hUs, hUt⟩, hx⟩
            go_wp2_with fail
            have hr := hr.below hx
            have f8 := hr.frozen (3 + Q)
            have c8 := hr.cell (k := 3 + Q) hQm
            have hUL := Lib.hid hUt
            clear hUt
            refine hKS.out.out _ _ ⟨hHeld.1.below hx, hHeld.2.1.trans (hx.mono (hB ▸ hHeld.2.1.size)), cellB hHeld.2.2 hx⟩ (fun hHeld => ?_)
            clear hKS KK hx
            try simp only [Act.put, List.setIfInBounds_toArray, List.set_cons_zero, List.set_cons_succ]
            refine wpAnyH_take (i := 9) (oi := { dst := some 64, op := Op.slice 9 (Operand.tmp 63) none (some (Operand.const (Value.int IntKind.i64 24))) none, type := _, pos := _, after := _, guard := _ }) (v := ?_) rfl (by kernel_rfl) (by kernel_rfl) (by kernel_rfl) (fun _ _ _ h => h) (Or.inl ⟨by rfl, ?_⟩) hHeld ?_
            rotate_left
            · intro wq hSw
              go_simp
              rfl
            try simp only [Act.put, List.setIfInBounds_toArray, List.set_cons_zero, List.set_cons_succ]
            refine wpAnyH_take (i := 10) (oi := { dst := some 65, op := Op.binOp BinOp.add 9 (Operand.tmp 61) (Operand.tmp 64) 9, type := _, pos := _, after := _, guard := _ }) (v := ?_) rfl (by kernel_rfl) (by kernel_rfl) (by kernel_rfl) (fun _ _ _ h => h) (Or.inl ⟨by rfl, ?_⟩) hHeld ?_
            rotate_left
            · intro wq hSw
              go_simp
              rfl
            try simp only [Act.put, List.setIfInBounds_toArray, List.set_cons_zero, List.set_cons_succ]
            refine wpAnyH_take (i := 16) (oi := { dst := some 71, op := Op.binOp BinOp.add 9 (Operand.tmp 65) (Operand.tmp 70) 9, type := _, pos := _, after := _, guard := _ }) (v := ?_) rfl (by kernel_rfl) (by kernel_rfl) (by kernel_rfl) (fun _ _ _ h => h) (Or.inl ⟨by rfl, ?_⟩) hHeld ?_
            rotate_left
            · intro wq hSw
              go_simp
              rfl
            try simp only [Act.put, List.setIfInBounds_toArray, List.set_cons_zero, List.set_cons_succ]
            refine wpAnyH_take (i := 17) (oi := { dst := some 72, op := Op.indexAddr 22 (Operand.tmp 55) (Operand.tmp 56), type := _, pos := _, after := _, guard := _ }) (v := ?_) rfl (by kernel_rfl) (by kernel_rfl) (by kernel_rfl) (fun _ _ _ h => h) (Or.inl ⟨by rfl, ?_⟩) hHeld ?_
            rotate_left
            · intro wq hSw
              go_simp
              rfl
            try simp only [Act.put, List.setIfInBounds_toArray, List.set_cons_zero, List.set_cons_succ]
            refine wpAnyH_ready (rs := [18]) (by kernel_rfl) (by simp) ?_
            refine AllReadyH.cons (o := { dst := none, op := Op.store 9 (Operand.tmp 72) (Operand.tmp 71), type := _, pos := _, after := _, guard := _ }) rfl (fun KK hKK => ?_) AllReadyH.nil
            have hKS := Lib.hid hKK
            clear hKK
            have hr7 := hr.put (3 + Q) (T.extract 0 64 ++ U.extract 0 24 ++ T.extract 88 128)
            have hb7 := hHeld.2.1.setCell (p := ⟨gr, 3 + Q, none⟩) (by simp; omega) (.string (T.extract 0 64 ++ U.extract 0 24 ++ T.extract 88 128))
            go_simp
            refine hKS.out.out _ _ ⟨hHeld.1.other (by simp <;> omega) _, hb7, (World.cell?_setCell_far _ _ _ _ (by simp <;> omega)).trans hHeld.2.2⟩ (fun hHeld => ?_)
            clear hKS KK
            try simp only [Act.put, List.setIfInBounds_toArray, List.set_cons_zero, List.set_cons_succ]
            refine wpAnyH_done (by kernel_rfl) ?_ _
            go_wp2_with fail
            refine bodyPost_ret (v := .tuple #[.slice (some ⟨gr, 0, none⟩) m c', .int .i64 0]) (by simp [results, Tryd.results17, go_sem]) rfl ?_
            have hXX := HX.out
            rw [← ins_high T U X hsT hUL.out hUs] at hXX
            rw [← hXX] at hr7
            exact ⟨.inr (.inr (.inr ⟨m, y, j, _, _, HV.out, rfl, HJ.out.1, HJ.out.2, HFT.out, rfl, RS.mono hr7 hs6⟩)), by first | exact hb7 | (rw [hB]; exact hb7)⟩
          · have hp0 : pl j = 0 := by omega
            rw [hj2] at e3 e3'
            rw [hp0] at HX
            clear hj2 hpj hp0 hq hJ
            go_wp2_with fail
            refine wp_region_held_drew (S := fun V => Nm.Own V B 27 (ic X) ∧ Below B w V ∧ V.cell? ⟨b0, off + (3 + Q), none⟩ = some (.string T)) (by kernel_rfl) ⟨oB8, hb8.drew, hcT⟩ (fun hHeld => ?_)
            replace hr : RS w8.drew _ _ _ _ _ := hr
            generalize w8.drew = V0 at *
            clear oB8 hb8 hcT f8
            refine wpAnyH_take (i := 0) (oi := { dst := some 43, op := Op.move (Operand.tmp 10), type := _, pos := _, after := _, guard := _ }) (v := ?_) rfl (by kernel_rfl) (by kernel_rfl) (by kernel_rfl) (fun _ _ _ h => h) (Or.inl ⟨by rfl, ?_⟩) hHeld ?_
            rotate_left
            · intro wq hSw
              go_simp
              rfl
            try simp only [Act.put, List.setIfInBounds_toArray, List.set_cons_zero, List.set_cons_succ]
            refine wpAnyH_take (i := 1) (oi := { dst := some 44, op := Op.move (Operand.tmp 11), type := _, pos := _, after := _, guard := _ }) (v := ?_) rfl (by kernel_rfl) (by kernel_rfl) (by kernel_rfl) (fun _ _ _ h => h) (Or.inl ⟨by rfl, ?_⟩) hHeld ?_
            rotate_left
            · intro wq hSw
              go_simp
              rfl
            try simp only [Act.put, List.setIfInBounds_toArray, List.set_cons_zero, List.set_cons_succ]
            refine wpAnyH_take (i := 2) (oi := { dst := some 45, op := Op.load 27 (Operand.tmp 5), type := _, pos := _, after := _, guard := _ }) rfl (by kernel_rfl) (by kernel_rfl) (by kernel_rfl) (fun _ _ _ h => h) (yl27 (by kernel_rfl) _ rfl _ rfl (fun w1 h => h.1)) hHeld ?_
            try simp only [Act.put, List.setIfInBounds_toArray, List.set_cons_zero, List.set_cons_succ]
            refine wpAnyH_take (i := 5) (oi := { dst := some 48, op := Op.move (Operand.tmp 0), type := _, pos := _, after := _, guard := _ }) (v := ?_) rfl (by kernel_rfl) (by kernel_rfl) (by kernel_rfl) (fun _ _ _ h => h) (Or.inl ⟨by rfl, ?_⟩) hHeld ?_
            rotate_left
            · intro wq hSw
              go_simp
              rfl
            try simp only [Act.put, List.setIfInBounds_toArray, List.set_cons_zero, List.set_cons_succ]
            refine wpAnyH_take (i := 6) (oi := { dst := some 49, op := Op.move (Operand.tmp 11), type := _, pos := _, after := _, guard := _ }) (v := ?_) rfl (by kernel_rfl) (by kernel_rfl) (by kernel_rfl) (fun _ _ _ h => h) (Or.inl ⟨by rfl, ?_⟩) hHeld ?_
            rotate_left
            · intro wq hSw
              go_simp
              rfl
            try simp only [Act.put, List.setIfInBounds_toArray, List.set_cons_zero, List.set_cons_succ]
            refine wpAnyH_take (i := 7) (oi := { dst := some 50, op := Op.indexAddr 22 (Operand.tmp 48) (Operand.tmp 49), type := _, pos := _, after := _, guard := _ }) (v := ?_) rfl (by kernel_rfl) (by kernel_rfl) (by kernel_rfl) (fun _ _ _ h => h) (Or.inl ⟨by rfl, ?_⟩) hHeld ?_
            rotate_left
            · intro wq hSw
              go_simp
              rfl
            try simp only [Act.put, List.setIfInBounds_toArray, List.set_cons_zero, List.set_cons_succ]
            refine wpAnyH_take (i := 8) (oi := { dst := some 51, op := Op.load 9 (Operand.tmp 50), type := _, pos := _, after := _, guard := _ }) (v := ?_) rfl (by kernel_rfl) (by kernel_rfl) (by kernel_rfl) (fun _ _ _ h => h) (Or.inl ⟨by rfl, ?_⟩) hHeld ?_
            rotate_left
            · intro wq hSw
              obtain ⟨s1, s2, s3⟩ := hSw
              go_simp
              rfl
            try simp only [Act.put, List.setIfInBounds_toArray, List.set_cons_zero, List.set_cons_succ]
            refine wpAnyH_take (i := 9) (oi := { dst := some 52, op := Op.slice 9 (Operand.tmp 51) (some (Operand.const (Value.int IntKind.i64 24))) none none, type := _, pos := _, after := _, guard := _ }) (v := ?_) rfl (by kernel_rfl) (by kernel_rfl) (by kernel_rfl) (fun _ _ _ h => h) (Or.inl ⟨by rfl, ?_⟩) hHeld ?_
            rotate_left
            · intro wq hSw
              go_simp
              rfl
            try simp only [Act.put, List.setIfInBounds_toArray, List.set_cons_zero, List.set_cons_succ]
            refine wpAnyH_ready (rs := [3]) (by kernel_rfl) (by simp) ?_
            refine AllReadyH.cons (o := { dst := some 46, op := Op.call { callee := Callee.value (Operand.func 33), args := #[Operand.tmp 45], argTypes := #[27] }, type := _, pos := _, after := _, guard := _ }) rfl (fun KK hKK => ?_) AllReadyH.nil
            have hKS := Lib.hid hKK
            clear hKK
            go_simp
            refine (hby _).mono ?_
            rintro e w3 ⟨⟨U, rfl, hUs, hUt⟩, hx⟩
            go_wp2_with fail
            have hr := hr.below hx
            have f8 := hr.frozen (3 + Q)
            have c8 := hr.cell (k := 3 + Q) hQm
            have hUL := Lib.hid hUt
            clear hUt
            refine hKS.out.out _ _ ⟨hHeld.1.below hx, hHeld.2.1.trans (hx.mono (hB ▸ hHeld.2.1.size)), cellB hHeld.2.2 hx⟩ (fun hHeld => ?_)
            clear hKS KK hx
            try simp only [Act.put, List.setIfInBounds_toArray, List.set_cons_zero, List.set_cons_succ]
            refine wpAnyH_take (i := 4) (oi := { dst := some 47, op := Op.slice 9 (Operand.tmp 46) none (some (Operand.const (Value.int IntKind.i64 24))) none, type := _, pos := _, after := _, guard := _ }) (v := ?_) rfl (by kernel_rfl) (by kernel_rfl) (by kernel_rfl) (fun _ _ _ h => h) (Or.inl ⟨by rfl, ?_⟩) hHeld ?_
            rotate_left
            · intro wq hSw
              go_simp
              rfl
            try simp only [Act.put, List.setIfInBounds_toArray, List.set_cons_zero, List.set_cons_succ]
            refine wpAnyH_take (i := 10) (oi := { dst := some 53, op := Op.binOp BinOp.add 9 (Operand.tmp 47) (Operand.tmp 52) 9, type := _, pos := _, after := _, guard := _ }) (v := ?_) rfl (by kernel_rfl) (by kernel_rfl) (by kernel_rfl) (fun _ _ _ h => h) (Or.inl ⟨by rfl, ?_⟩) hHeld ?_
            rotate_left
            · intro wq hSw
              go_simp
              rfl
            try simp only [Act.put, List.setIfInBounds_toArray, List.set_cons_zero, List.set_cons_succ]
            refine wpAnyH_take (i := 11) (oi := { dst := some 54, op := Op.indexAddr 22 (Operand.tmp 43) (Operand.tmp 44), type := _, pos := _, after := _, guard := _ }) (v := ?_) rfl (by kernel_rfl) (by kernel_rfl) (by kernel_rfl) (fun _ _ _ h => h) (Or.inl ⟨by rfl, ?_⟩) hHeld ?_
            rotate_left
            · intro wq hSw
              go_simp
              rfl
            try simp only [Act.put, List.setIfInBounds_toArray, List.set_cons_zero, List.set_cons_succ]
            refine wpAnyH_ready (rs := [12]) (by kernel_rfl) (by simp) ?_
            refine AllReadyH.cons (o := { dst := none, op := Op.store 9 (Operand.tmp 54) (Operand.tmp 53), type := _, pos := _, after := _, guard := _ }) rfl (fun KK hKK => ?_) AllReadyH.nil
            have hKS := Lib.hid hKK
            clear hKK
            have hr7 := hr.put (3 + Q) (U.extract 0 24 ++ T.extract 24 128)
            have hb7 := hHeld.2.1.setCell (p := ⟨gr, 3 + Q, none⟩) (by simp; omega) (.string (U.extract 0 24 ++ T.extract 24 128))
            go_simp
            refine hKS.out.out _ _ ⟨hHeld.1.other (by simp <;> omega) _, hb7, (World.cell?_setCell_far _ _ _ _ (by simp <;> omega)).trans hHeld.2.2⟩ (fun hHeld => ?_)
            clear hKS KK
            try simp only [Act.put, List.setIfInBounds_toArray, List.set_cons_zero, List.set_cons_succ]
            refine wpAnyH_done (by kernel_rfl) ?_ _
            go_wp2_with fail
            refine bodyPost_ret (v := .tuple #[.slice (some ⟨gr, 0, none⟩) m c', .int .i64 0]) (by simp [results, Tryd.results17, go_sem]) rfl ?_
            have hXX := HX.out
            rw [← ins_low T U X hsT hUL.out hUs] at hXX
            rw [← hXX] at hr7
            exact ⟨.inr (.inr (.inr ⟨m, y, j, _, _, HV.out, rfl, HJ.out.1, HJ.out.2, HFT.out, rfl, RS.mono hr7 hs6⟩)), by first | exact hb7 | (rw [hB]; exact hb7)⟩
  · have HV := Lib.hid hv
    clear hv
    go_wp2_with (refine sto24 (cs := gz) rfl rfl rfl rfl og gz_one gz_one ?_)
    intro w5 o5 s5
    have hb5 := s5.below hb2 (by omega)
    clear hb2 og s5 o5 o2 b1
    go_wp2_with fail
    refine bodyPost_ret (v := .tuple #[.slice none 0 0, .int .i64 3]) (by simp [results, Tryd.results17, go_sem]) rfl ?_
    exact ⟨.inl ⟨HV.out, rfl⟩, by first | exact hb5 | (rw [hB]; exact hb5)⟩
end Dw
end Go.Proofs.YtambgmjiafcokaaDoor
