/-
  THE WALKS of what sends: the code's and the document's Send, Reply.
-/
import Derived.Test.YtaoaebdjinlcnaaDoorVc
namespace Go.Proofs.YtaoaebdjinlcnaaDoor
set_option linter.unusedVariables false
set_option linter.unusedSimpArgs false
set_option maxRecDepth 100000
open Go.RowKit
/-- the argument's box, and the answer's -/
structure Sv (w : World) (c : Ch) (W : World) : Prop where
  a : Cb W w.heap.size c
  r : Cb W (w.heap.size + 1) zCh
  b : Below w.heap.size w W
theorem Sv.below {w W W' : World} {c : Ch} (h : Sv w c W) (hx : Below W.heap.size W W') : Sv w c W' := ⟨h.a.below hx, h.r.below hx, h.b.trans (hx.mono h.b.size)⟩
theorem Sv.drew {w W : World} {c : Ch} (h : Sv w c W) : Sv w c W.drew := ⟨h.a.drew, h.r.drew, h.b.drew⟩
theorem Sv.new (w : World) (c : Ch) (h : c.K.length = 32) : Sv w c ((w.alloc (Obj.cells (chv c) 26)).alloc (Obj.cells (chv zCh) 26)) := by
  refine ⟨(Cb.new w c h).alloc _, ?_, ((Below.refl _ w).alloc (Nat.le_refl _) _).alloc (by simp) _⟩
  have := Cb.new (w.alloc (Obj.cells (chv c) 26)) zCh zCh_ok.k
  rwa [World.size_alloc] at this
theorem Sv.lt {w W : World} {c : Ch} (h : Sv w c W) : w.heap.size + 2 ≤ W.heap.size := h.r.lt
theorem Sv.row {w W : World} {c : Ch} (h : Sv w c W) {g : Nat} (hg : w.heap.size + 2 ≤ g) (cs : Array Value) : Sv w c (W.setRow g cs) := ⟨h.a.rowOther cs (by omega), h.r.rowOther cs (by omega), below_row h.b (by omega) cs⟩
theorem wst26 {o : Oper} {a : Act} {w : World} {K : Act → World → Prop} {Q : Exit → Act → World → Prop} {x y : Operand} {g : Nat} {c d : Ch} (hd : d.K.length = 32)
    (ho : o.op = .store 26 x y) (hx : a.eval x = .pointer (some ⟨g, 0, none⟩)) (hy : a.eval y = .agg (chv d)) (hg : Cb w g c)
    (h : K (a.put o.dst undef) (w.setRow g (chv d))) : o.wp Tryd.prog a w K Q :=
  wp_store_row 26 x y ho g _ hx hy 26 (chv c) hg.o (by rw [chv_size _ hd]; exact info26) (by rw [chv_size _ hd, chv_size _ hg.k]) (chv_one d) h
theorem ybld26 {ops : Array Oper} {X : World → Prop} {o : Oper} {a : Act} {x0 x1 x2 : Operand} (c : Ch) (hc : c.K.length = 32) (hw : Region.wanted o (yielded ops a.tmps) = true)
    (ho : o.op = .build 26 #[(0, x0), (1, x1), (2, x2)]) (h0 : a.eval x0 = .string c.m) (h1 : a.eval x1 = .int .u64 (c.n : Int)) (h2 : a.eval x2 = .agg (vs .u8 c.K)) : YieldsIf Tryd.prog ops X o (.agg (chv c)) a :=
  .inl ⟨hw, fun w _ => by
    have e : ((#[(0, x0), (1, x1), (2, x2)] : Array (Nat × Operand)).map fun (i, x) => (i, a.eval x)) = #[(0, .string c.m), (1, .int .u64 (c.n : Int)), (2, .agg (vs .u8 c.K))] := by simp [h0, h1, h2]
    have hb := run_build (P := Tryd.prog) w 26 #[(0, .string c.m), (1, .int .u64 (c.n : Int)), (2, .agg (vs .u8 c.K))] (chv c) (built26 c hc)
    unfold execOp
    simp only [ho]
    rw [e]
    simp [hb, Result.andThen]⟩
theorem ts_three (w : World) (a b x : ByteArray) : Un.Nm.Ts (w.alloc (Obj.cells #[.string a, .string b, .string x] 9)) (some ⟨w.heap.size, 0, none⟩) 3 [a, b, x] := by
  have p := Pt.new3 w a b x
  exact ⟨rfl, fun _ => ⟨w.heap.size, 0, rfl, fun i hi => by
    match i, hi with
    | 0, _ => exact p.c 0 a rfl
    | 1, _ => exact p.c 1 b rfl
    | 2, _ => exact p.c 2 x rfl⟩⟩
set_option maxHeartbeats 8000000 in
theorem send_any (c : Ch) (d : ByteArray) (w : World) (hc : c.Ok) (hT : Tab w) (hm : c.m.size ≤ 1000) (hd : d.size ≤ 1000 ∨ 65536 < d.size) :
    Calls Tryd.prog 12 #[.agg (chv c), .string d] w fun e w' => e = .returned (rsv (sendR c d)) ∧ Below w.heap.size w w' := by
  have st0 := Sv.new w c hc.k
  have lK := hc.k
  have bK := hc.b
  have hcn := hc.n
  go_enter Tryd.func12, Tryd.ntmps12
  go_upto_region 1 with fail
  change Code.wp _ _ _ _ ((w.alloc (Obj.cells (chv c) 26)).alloc (Obj.cells (chv zCh) 26))
  generalize (w.alloc (Obj.cells (chv c) 26)).alloc (Obj.cells (chv zCh) 26) = W0 at *
  by_cases hbig : 65536 < d.size
  · have hb : 65536 < (d.size : Int) := by omega
    have HR := Lib.hid (show sendR c d = bad 6 from if_pos hbig)
    go_wp2_with (first | refine bld26z rfl rfl ?_ | refine sto26 (d := zCh) (c := zCh) zCh_ok.k rfl rfl rfl rfl st0.r ?_)
    exact res26 rfl rfl rfl rfl (st0.r.row zCh zCh_ok.k) rfl ⟨by rw [HR.out]; rfl, below_row st0.b (by omega) _⟩
  have hb : ¬ 65536 < (d.size : Int) := by omega
  have hd1 : d.size ≤ 1000 := by omega
  have c1 := st0.a.c1
  by_cases hn : c.n = 18446744073709551615
  · have hn' : (c.n : Int) = 18446744073709551615 := by omega
    have HR := Lib.hid (show sendR c d = bad 2 by unfold sendR; rw [if_neg hbig, if_pos hn])
    rw [hn'] at c1
    go_wp2_with (first | refine bld26z rfl rfl ?_ | refine sto26 (d := zCh) (c := zCh) zCh_ok.k rfl rfl rfl rfl st0.r ?_)
    exact res26 rfl rfl rfl rfl (st0.r.row zCh zCh_ok.k) rfl ⟨by rw [HR.out]; rfl, below_row st0.b (by omega) _⟩
  have hn' : ((c.n : Int) == 18446744073709551615) = false := by rw [beq_eq_false_iff_ne]; omega
  have hn2 : c.n + 1 < 18446744073709551616 := by omega
  have e1 : IntKind.u64.wrap ((c.n : Int) + 1) = ((c.n + 1 : Nat) : Int) := by rw [IntWalk.u64_in _ (by omega)]; omega
  have hhs := headD_size c.m c.n (by omega)
  have HR := Lib.hid (show sendR c d = (⟨c.m, c.n + 1, nxt c.K⟩, frameD c d, 0) from send_ok c d (by omega) (by omega))
  have hkey := fun wr (o : Sv w c wr) => send_key c.K wr bK lK (hT.below o.b)
  have hnon := fun wr => nonce8_any c.n wr hcn
  have hhead := fun wr => head_any c.m c.n wr hcn (by omega)
  have hseal := fun wr (o : Sv w c wr) => seal_any (Bl.keyed c.K wS) (nonD (num8 c.n)) (headD c.m c.n) d wr (keyed_by _ _) (nonD8_by _) (keyed_len _ _) (nonD8_len _) (hT.below o.b) (by omega) (by omega)
  have hnx := fun wr (o : Sv w c wr) => next_any c.K wr bK lK (hT.below o.b)
  have hnum := fun wr => number_any c.n wr hcn
  have hbox := boxS_size c.K c.m c.n d
  have HB := Lib.hid (show boxD (Bl.keyed c.K wS) (nonD (num8 c.n)) (headD c.m c.n) d = boxS c.K c.m c.n d from rfl)
  go_upto_region 5 with fail
  clear c1
  go_cut [7] from 17 to 29 (fun s7 wc => s7 = .string (boxS c.K c.m c.n d) ∧ Sv w c wc)
  case first =>
    refine wp_region_held_drew (S := fun V => Sv w c V) (by kernel_rfl) st0.drew (fun hHeld => ?_)
    clear st0
    generalize W0.drew = W1 at *
    refine wpAnyH_take (i := 0) (oi := { dst := some 17, op := Op.fieldAddr 26 (Operand.tmp 2) 2, type := _, pos := _, after := _, guard := _ }) (v := ?_) rfl (by kernel_rfl) (by kernel_rfl) (by kernel_rfl) (fun _ _ _ h => h) (Or.inl ⟨by rfl, ?_⟩) hHeld ?_
    rotate_left
    · intro wq hSw
      go_simp
      rfl
    try simp only [Act.put, List.setIfInBounds_toArray, List.set_cons_zero, List.set_cons_succ]
    refine wpAnyH_take (i := 1) (oi := { dst := some 18, op := Op.load 24 (Operand.tmp 17), type := _, pos := _, after := _, guard := _ }) rfl (by kernel_rfl) (by kernel_rfl) (by kernel_rfl) (fun _ _ _ h => h) (ylk (by rfl) _ rfl _ rfl (fun w1 h => h.a) lK) hHeld ?_
    try simp only [Act.put, List.setIfInBounds_toArray, List.set_cons_zero, List.set_cons_succ]
    refine wpAnyH_take (i := 3) (oi := { dst := some 20, op := Op.fieldAddr 26 (Operand.tmp 2) 1, type := _, pos := _, after := _, guard := _ }) (v := ?_) rfl (by kernel_rfl) (by kernel_rfl) (by kernel_rfl) (fun _ _ _ h => h) (Or.inl ⟨by rfl, ?_⟩) hHeld ?_
    rotate_left
    · intro wq hSw
      go_simp
      rfl
    try simp only [Act.put, List.setIfInBounds_toArray, List.set_cons_zero, List.set_cons_succ]
    refine wpAnyH_take (i := 4) (oi := { dst := some 21, op := Op.load 22 (Operand.tmp 20), type := _, pos := _, after := _, guard := _ }) (v := ?_) rfl (by kernel_rfl) (by kernel_rfl) (by kernel_rfl) (fun _ _ _ h => h) (Or.inl ⟨by rfl, ?_⟩) hHeld ?_
    rotate_left
    · intro wq hSw
      have c1 := hSw.a.c1
      go_simp
      rfl
    try simp only [Act.put, List.setIfInBounds_toArray, List.set_cons_zero, List.set_cons_succ]
    refine wpAnyH_take (i := 6) (oi := { dst := some 23, op := Op.fieldAddr 26 (Operand.tmp 2) 0, type := _, pos := _, after := _, guard := _ }) (v := ?_) rfl (by kernel_rfl) (by kernel_rfl) (by kernel_rfl) (fun _ _ _ h => h) (Or.inl ⟨by rfl, ?_⟩) hHeld ?_
    rotate_left
    · intro wq hSw
      go_simp
      rfl
    try simp only [Act.put, List.setIfInBounds_toArray, List.set_cons_zero, List.set_cons_succ]
    refine wpAnyH_take (i := 7) (oi := { dst := some 24, op := Op.load 9 (Operand.tmp 23), type := _, pos := _, after := _, guard := _ }) (v := ?_) rfl (by kernel_rfl) (by kernel_rfl) (by kernel_rfl) (fun _ _ _ h => h) (Or.inl ⟨by rfl, ?_⟩) hHeld ?_
    rotate_left
    · intro wq hSw
      have c0 := hSw.a.c0
      go_simp
      rfl
    try simp only [Act.put, List.setIfInBounds_toArray, List.set_cons_zero, List.set_cons_succ]
    refine wpAnyH_take (i := 8) (oi := { dst := some 25, op := Op.fieldAddr 26 (Operand.tmp 2) 1, type := _, pos := _, after := _, guard := _ }) (v := ?_) rfl (by kernel_rfl) (by kernel_rfl) (by kernel_rfl) (fun _ _ _ h => h) (Or.inl ⟨by rfl, ?_⟩) hHeld ?_
    rotate_left
    · intro wq hSw
      go_simp
      rfl
    try simp only [Act.put, List.setIfInBounds_toArray, List.set_cons_zero, List.set_cons_succ]
    refine wpAnyH_take (i := 9) (oi := { dst := some 26, op := Op.load 22 (Operand.tmp 25), type := _, pos := _, after := _, guard := _ }) (v := ?_) rfl (by kernel_rfl) (by kernel_rfl) (by kernel_rfl) (fun _ _ _ h => h) (Or.inl ⟨by rfl, ?_⟩) hHeld ?_
    rotate_left
    · intro wq hSw
      have c1 := hSw.a.c1
      go_simp
      rfl
    try simp only [Act.put, List.setIfInBounds_toArray, List.set_cons_zero, List.set_cons_succ]
    refine wpAnyH_take (i := 11) (oi := { dst := some 28, op := Op.move (Operand.tmp 1), type := _, pos := _, after := _, guard := _ }) (v := ?_) rfl (by kernel_rfl) (by kernel_rfl) (by kernel_rfl) (fun _ _ _ h => h) (Or.inl ⟨by rfl, ?_⟩) hHeld ?_
    rotate_left
    · intro wq hSw
      go_simp
      rfl
    try simp only [Act.put, List.setIfInBounds_toArray, List.set_cons_zero, List.set_cons_succ]
    refine wpAnyH_ready (rs := [2]) (by kernel_rfl) (by simp) ?_
    refine AllReadyH.cons (o := { dst := some 19, op := Op.call { callee := Callee.value (Operand.func 28), args := #[Operand.tmp 18], argTypes := #[24] }, type := _, pos := _, after := _, guard := _ }) rfl (fun KK hKK => ?_) AllReadyH.nil
    have hKS := Lib.hid hKK
    clear hKK
    go_simp
    refine (hkey _ hHeld).mono ?_
    rintro e w2 ⟨rfl, hx⟩
    go_wp2_with fail
    refine hKS.out.out _ _ (hHeld.below hx) (fun hHeld => ?_)
    clear hKS KK hx
    try simp only [Act.put, List.setIfInBounds_toArray, List.set_cons_zero, List.set_cons_succ]
    refine wpAnyH_ready (rs := [5]) (by kernel_rfl) (by simp) ?_
    refine AllReadyH.cons (o := { dst := some 22, op := Op.call { callee := Callee.value (Operand.func 29), args := #[Operand.tmp 21], argTypes := #[22] }, type := _, pos := _, after := _, guard := _ }) rfl (fun KK hKK => ?_) AllReadyH.nil
    have hKS := Lib.hid hKK
    clear hKK
    go_simp
    refine (hnon _).mono ?_
    rintro e w5 ⟨rfl, hx⟩
    go_wp2_with fail
    refine hKS.out.out _ _ (hHeld.below hx) (fun hHeld => ?_)
    clear hKS KK hx
    try simp only [Act.put, List.setIfInBounds_toArray, List.set_cons_zero, List.set_cons_succ]
    refine wpAnyH_ready (rs := [10]) (by kernel_rfl) (by simp) ?_
    refine AllReadyH.cons (o := { dst := some 27, op := Op.call { callee := Callee.value (Operand.func 30), args := #[Operand.tmp 24, Operand.tmp 26], argTypes := #[9, 22] }, type := _, pos := _, after := _, guard := _ }) rfl (fun KK hKK => ?_) AllReadyH.nil
    have hKS := Lib.hid hKK
    clear hKK
    go_simp
    refine (hhead _).mono ?_
    rintro e w10 ⟨rfl, hx⟩
    go_wp2_with fail
    refine hKS.out.out _ _ (hHeld.below hx) (fun hHeld => ?_)
    clear hKS KK hx
    try simp only [Act.put, List.setIfInBounds_toArray, List.set_cons_zero, List.set_cons_succ]
    refine wpAnyH_ready (rs := [12]) (by kernel_rfl) (by simp) ?_
    refine AllReadyH.cons (o := { dst := some 29, op := Op.call { callee := Callee.value (Operand.func 27), args := #[Operand.tmp 19, Operand.tmp 22, Operand.tmp 27, Operand.tmp 28], argTypes := #[24, 54, 9, 9] }, type := _, pos := _, after := _, guard := _ }) rfl (fun KK hKK => ?_) AllReadyH.nil
    have hKS := Lib.hid hKK
    clear hKK
    go_simp
    refine (hseal _ hHeld).mono ?_
    rintro e w12 ⟨rfl, hx⟩
    go_wp2_with fail
    rw [HB.out]
    refine hKS.out.out _ _ (hHeld.below hx) (fun hHeld => ?_)
    clear hKS KK hx
    try simp only [Act.put, List.setIfInBounds_toArray, List.set_cons_zero, List.set_cons_succ]
    refine wpAnyH_take (i := 13) (oi := { dst := some 7, op := Op.assign (Operand.tmp 29), type := _, pos := _, after := _, guard := _ }) (v := ?_) rfl (by kernel_rfl) (by kernel_rfl) (by kernel_rfl) (fun _ _ _ h => h) (Or.inl ⟨by rfl, ?_⟩) hHeld ?_
    rotate_left
    · intro wq hSw
      go_simp
      rfl
    try simp only [Act.put, List.setIfInBounds_toArray, List.set_cons_zero, List.set_cons_succ]
    refine wpAnyH_done (by kernel_rfl) ?_ _
    go_wp2_with fail
    go_meet
    case rel => exact ⟨rfl, hHeld⟩
  case rest =>
    obtain ⟨rfl, st⟩ := hcut
    clear hkey hnon hhead hseal HB
    go_upto_region 6 with fail
    go_cut [8] from 30 to 38 (fun s8 wc => ∃ g, s8 = .pointer (some ⟨g, 0, none⟩) ∧ w.heap.size + 2 ≤ g ∧ Cb wc g ⟨c.m, c.n + 1, nxt c.K⟩ ∧ Sv w c wc)
    case first =>
      refine wp_region_held_drew (S := fun V => Sv w c V) (by kernel_rfl) st.drew (fun hHeld => ?_)
      clear st
      generalize wc.drew = W1 at *
      refine wpAnyH_take (i := 0) (oi := { dst := some 30, op := Op.fieldAddr 26 (Operand.tmp 2) 0, type := _, pos := _, after := _, guard := _ }) (v := ?_) rfl (by kernel_rfl) (by kernel_rfl) (by kernel_rfl) (fun _ _ _ h => h) (Or.inl ⟨by rfl, ?_⟩) hHeld ?_
      rotate_left
      · intro wq hSw
        go_simp
        rfl
      try simp only [Act.put, List.setIfInBounds_toArray, List.set_cons_zero, List.set_cons_succ]
      refine wpAnyH_take (i := 1) (oi := { dst := some 31, op := Op.load 9 (Operand.tmp 30), type := _, pos := _, after := _, guard := _ }) (v := ?_) rfl (by kernel_rfl) (by kernel_rfl) (by kernel_rfl) (fun _ _ _ h => h) (Or.inl ⟨by rfl, ?_⟩) hHeld ?_
      rotate_left
      · intro wq hSw
        have c0 := hSw.a.c0
        go_simp
        rfl
      try simp only [Act.put, List.setIfInBounds_toArray, List.set_cons_zero, List.set_cons_succ]
      refine wpAnyH_take (i := 2) (oi := { dst := some 32, op := Op.fieldAddr 26 (Operand.tmp 2) 1, type := _, pos := _, after := _, guard := _ }) (v := ?_) rfl (by kernel_rfl) (by kernel_rfl) (by kernel_rfl) (fun _ _ _ h => h) (Or.inl ⟨by rfl, ?_⟩) hHeld ?_
      rotate_left
      · intro wq hSw
        go_simp
        rfl
      try simp only [Act.put, List.setIfInBounds_toArray, List.set_cons_zero, List.set_cons_succ]
      refine wpAnyH_take (i := 3) (oi := { dst := some 33, op := Op.load 22 (Operand.tmp 32), type := _, pos := _, after := _, guard := _ }) (v := ?_) rfl (by kernel_rfl) (by kernel_rfl) (by kernel_rfl) (fun _ _ _ h => h) (Or.inl ⟨by rfl, ?_⟩) hHeld ?_
      rotate_left
      · intro wq hSw
        have c1 := hSw.a.c1
        go_simp
        rfl
      try simp only [Act.put, List.setIfInBounds_toArray, List.set_cons_zero, List.set_cons_succ]
      refine wpAnyH_take (i := 4) (oi := { dst := some 34, op := Op.binOp BinOp.add 22 (Operand.tmp 33) (Operand.const (Value.int IntKind.u64 1)) 22, type := _, pos := _, after := _, guard := _ }) (v := ?_) rfl (by kernel_rfl) (by kernel_rfl) (by kernel_rfl) (fun _ _ _ h => h) (Or.inl ⟨by rfl, ?_⟩) hHeld ?_
      rotate_left
      · intro wq hSw
        go_simp
        rfl
      try simp only [Act.put, List.setIfInBounds_toArray, List.set_cons_zero, List.set_cons_succ]
      refine wpAnyH_take (i := 5) (oi := { dst := some 35, op := Op.fieldAddr 26 (Operand.tmp 2) 2, type := _, pos := _, after := _, guard := _ }) (v := ?_) rfl (by kernel_rfl) (by kernel_rfl) (by kernel_rfl) (fun _ _ _ h => h) (Or.inl ⟨by rfl, ?_⟩) hHeld ?_
      rotate_left
      · intro wq hSw
        go_simp
        rfl
      try simp only [Act.put, List.setIfInBounds_toArray, List.set_cons_zero, List.set_cons_succ]
      refine wpAnyH_take (i := 6) (oi := { dst := some 36, op := Op.load 24 (Operand.tmp 35), type := _, pos := _, after := _, guard := _ }) rfl (by kernel_rfl) (by kernel_rfl) (by kernel_rfl) (fun _ _ _ h => h) (ylk (by rfl) _ rfl _ rfl (fun w1 h => h.a) lK) hHeld ?_
      try simp only [Act.put, List.setIfInBounds_toArray, List.set_cons_zero, List.set_cons_succ]
      refine wpAnyH_ready (rs := [7, 9]) (by kernel_rfl) (by simp) ?_
      refine AllReadyH.cons (o := { dst := some 37, op := Op.call { callee := Callee.value (Operand.func 14), args := #[Operand.tmp 36], argTypes := #[24] }, type := _, pos := _, after := _, guard := _ }) rfl (fun KK hKK => ?_) ?_
      · have hKS := Lib.hid hKK
        clear hKK
        go_simp
        refine (hnx _ hHeld).mono ?_
        rintro e w7 ⟨rfl, hx⟩
        go_wp2_with fail
        refine hKS.out.out _ _ (hHeld.below hx) (fun hHeld => ?_)
        clear hKS KK hx
        try simp only [Act.put, List.setIfInBounds_toArray, List.set_cons_zero, List.set_cons_succ]
        refine wpAnyH_take (i := 8) (oi := { dst := some 38, op := Op.build 26 #[(0, Operand.tmp 31), (1, Operand.tmp 34), (2, Operand.tmp 37)], type := _, pos := _, after := _, guard := _ }) rfl (by kernel_rfl) (by kernel_rfl) (by kernel_rfl) (fun _ _ _ h => h) (ybld26 ⟨c.m, c.n + 1, nxt c.K⟩ (keyed_len _ _) (by rfl) rfl rfl rfl rfl) hHeld ?_
        try simp only [Act.put, List.setIfInBounds_toArray, List.set_cons_zero, List.set_cons_succ]
        refine wpAnyH_ready (rs := [9]) (by kernel_rfl) (by simp) ?_
        refine AllReadyH.cons (o := { dst := some 8, op := Op.alloc 26, type := _, pos := _, after := _, guard := _ }) rfl (fun KK hKK => ?_) AllReadyH.nil
        have hKS := Lib.hid hKK
        clear hKK
        have hBefore := hHeld
        go_simp
        refine hKS.out.out _ (w7.alloc (Obj.cells (chv zCh) 26)) (hHeld.below (grow _ _)) (fun hHeld => ?_)
        have oA := Cb.new w7 zCh zCh_ok.k
        have hA := hHeld.lt
        have gA : w.heap.size + 2 ≤ w7.heap.size := hBefore.lt
        clear hKS KK
        generalize w7.alloc (Obj.cells (chv zCh) 26) = WA at *
        try simp only [Act.put, List.setIfInBounds_toArray, List.set_cons_zero, List.set_cons_succ]
        refine wpAnyH_ready (rs := [10]) (by kernel_rfl) (by simp) ?_
        refine AllReadyH.cons (o := { dst := none, op := Op.store 26 (Operand.tmp 8) (Operand.tmp 38), type := _, pos := _, after := _, guard := _ }) rfl (fun KK hKK => ?_) AllReadyH.nil
        have hKS := Lib.hid hKK
        clear hKK
        refine wst26 (d := ⟨c.m, c.n + 1, nxt c.K⟩) (c := zCh) (keyed_len _ _) rfl rfl rfl oA ?_
        refine hKS.out.out _ _ (hHeld.row gA _) (fun hHeld => ?_)
        have oN := oA.row ⟨c.m, c.n + 1, nxt c.K⟩ (keyed_len _ _)
        clear hKS KK oA
        try simp only [Act.put, List.setIfInBounds_toArray, List.set_cons_zero, List.set_cons_succ]
        refine wpAnyH_done (by kernel_rfl) ?_ _
        go_wp2_with fail
        go_meet
        case rel => exact ⟨_, rfl, gA, oN, hHeld⟩
      refine AllReadyH.cons (o := { dst := some 8, op := Op.alloc 26, type := _, pos := _, after := _, guard := _ }) rfl (fun KK hKK => ?_) AllReadyH.nil
      · have hKS := Lib.hid hKK
        clear hKK
        have hBefore := hHeld
        go_simp
        refine hKS.out.out _ (W1.alloc (Obj.cells (chv zCh) 26)) (hHeld.below (grow _ _)) (fun hHeld => ?_)
        have oA := Cb.new W1 zCh zCh_ok.k
        have hA := hHeld.lt
        have gA : w.heap.size + 2 ≤ W1.heap.size := hBefore.lt
        clear hKS KK
        generalize W1.alloc (Obj.cells (chv zCh) 26) = WA at *
        try simp only [Act.put, List.setIfInBounds_toArray, List.set_cons_zero, List.set_cons_succ]
        refine wpAnyH_ready (rs := [7]) (by kernel_rfl) (by simp) ?_
        refine AllReadyH.cons (o := { dst := some 37, op := Op.call { callee := Callee.value (Operand.func 14), args := #[Operand.tmp 36], argTypes := #[24] }, type := _, pos := _, after := _, guard := _ }) rfl (fun KK hKK => ?_) AllReadyH.nil
        have hKS := Lib.hid hKK
        clear hKK
        go_simp
        refine (hnx _ hHeld).mono ?_
        rintro e w7 ⟨rfl, hx⟩
        go_wp2_with fail
        refine hKS.out.out _ _ (hHeld.below hx) (fun hHeld => ?_)
        replace oA := oA.below hx
        clear hKS KK hx
        try simp only [Act.put, List.setIfInBounds_toArray, List.set_cons_zero, List.set_cons_succ]
        refine wpAnyH_take (i := 8) (oi := { dst := some 38, op := Op.build 26 #[(0, Operand.tmp 31), (1, Operand.tmp 34), (2, Operand.tmp 37)], type := _, pos := _, after := _, guard := _ }) rfl (by kernel_rfl) (by kernel_rfl) (by kernel_rfl) (fun _ _ _ h => h) (ybld26 ⟨c.m, c.n + 1, nxt c.K⟩ (keyed_len _ _) (by rfl) rfl rfl rfl rfl) hHeld ?_
        try simp only [Act.put, List.setIfInBounds_toArray, List.set_cons_zero, List.set_cons_succ]
        refine wpAnyH_ready (rs := [10]) (by kernel_rfl) (by simp) ?_
        refine AllReadyH.cons (o := { dst := none, op := Op.store 26 (Operand.tmp 8) (Operand.tmp 38), type := _, pos := _, after := _, guard := _ }) rfl (fun KK hKK => ?_) AllReadyH.nil
        have hKS := Lib.hid hKK
        clear hKK
        refine wst26 (d := ⟨c.m, c.n + 1, nxt c.K⟩) (c := zCh) (keyed_len _ _) rfl rfl rfl oA ?_
        refine hKS.out.out _ _ (hHeld.row gA _) (fun hHeld => ?_)
        have oN := oA.row ⟨c.m, c.n + 1, nxt c.K⟩ (keyed_len _ _)
        clear hKS KK oA
        try simp only [Act.put, List.setIfInBounds_toArray, List.set_cons_zero, List.set_cons_succ]
        refine wpAnyH_done (by kernel_rfl) ?_ _
        go_wp2_with fail
        go_meet
        case rel => exact ⟨_, rfl, gA, oN, hHeld⟩
    case rest =>
      obtain ⟨g, rfl, hg, oN, st⟩ := hcut
      clear hnx
      have oA := st.r.drew
      go_upto_region 7 with fail
      refine wp_region_held_drew (S := fun V => (Cb V w.heap.size c ∧ Below w.heap.size w V) ∧ Cb V g ⟨c.m, c.n + 1, nxt c.K⟩) (by kernel_rfl) ⟨⟨st.drew.a, st.drew.b⟩, oN.drew⟩ (fun hHeld => ?_)
      clear st oN
      generalize wc.drew = W1 at *
      refine wpAnyH_take (i := 0) (oi := { dst := some 39, op := Op.load 26 (Operand.tmp 8), type := _, pos := _, after := _, guard := _ }) rfl (by kernel_rfl) (by kernel_rfl) (by kernel_rfl) (fun _ _ _ h => h) (yl26 (by rfl) _ rfl _ rfl (fun w1 h => h.2) (keyed_len _ _)) hHeld ?_
      try simp only [Act.put, List.setIfInBounds_toArray, List.set_cons_zero, List.set_cons_succ]
      refine wpAnyH_take (i := 1) (oi := { dst := some 40, op := Op.fieldAddr 26 (Operand.tmp 2) 0, type := _, pos := _, after := _, guard := _ }) (v := ?_) rfl (by kernel_rfl) (by kernel_rfl) (by kernel_rfl) (fun _ _ _ h => h) (Or.inl ⟨by rfl, ?_⟩) hHeld ?_
      rotate_left
      · intro wq hSw
        go_simp
        rfl
      try simp only [Act.put, List.setIfInBounds_toArray, List.set_cons_zero, List.set_cons_succ]
      refine wpAnyH_take (i := 2) (oi := { dst := some 41, op := Op.load 9 (Operand.tmp 40), type := _, pos := _, after := _, guard := _ }) (v := ?_) rfl (by kernel_rfl) (by kernel_rfl) (by kernel_rfl) (fun _ _ _ h => h) (Or.inl ⟨by rfl, ?_⟩) hHeld ?_
      rotate_left
      · intro wq hSw
        have c0 := hSw.1.1.c0
        go_simp
        rfl
      try simp only [Act.put, List.setIfInBounds_toArray, List.set_cons_zero, List.set_cons_succ]
      refine wpAnyH_take (i := 3) (oi := { dst := some 42, op := Op.fieldAddr 26 (Operand.tmp 2) 1, type := _, pos := _, after := _, guard := _ }) (v := ?_) rfl (by kernel_rfl) (by kernel_rfl) (by kernel_rfl) (fun _ _ _ h => h) (Or.inl ⟨by rfl, ?_⟩) hHeld ?_
      rotate_left
      · intro wq hSw
        go_simp
        rfl
      try simp only [Act.put, List.setIfInBounds_toArray, List.set_cons_zero, List.set_cons_succ]
      refine wpAnyH_take (i := 4) (oi := { dst := some 43, op := Op.load 22 (Operand.tmp 42), type := _, pos := _, after := _, guard := _ }) (v := ?_) rfl (by kernel_rfl) (by kernel_rfl) (by kernel_rfl) (fun _ _ _ h => h) (Or.inl ⟨by rfl, ?_⟩) hHeld ?_
      rotate_left
      · intro wq hSw
        have c1 := hSw.1.1.c1
        go_simp
        rfl
      try simp only [Act.put, List.setIfInBounds_toArray, List.set_cons_zero, List.set_cons_succ]
      refine wpAnyH_take (i := 6) (oi := { dst := some 45, op := Op.move (Operand.tmp 7), type := _, pos := _, after := _, guard := _ }) (v := ?_) rfl (by kernel_rfl) (by kernel_rfl) (by kernel_rfl) (fun _ _ _ h => h) (Or.inl ⟨by rfl, ?_⟩) hHeld ?_
      rotate_left
      · intro wq hSw
        go_simp
        rfl
      try simp only [Act.put, List.setIfInBounds_toArray, List.set_cons_zero, List.set_cons_succ]
      refine wpAnyH_ready (rs := [5]) (by kernel_rfl) (by simp) ?_
      refine AllReadyH.cons (o := { dst := some 44, op := Op.call { callee := Callee.value (Operand.func 32), args := #[Operand.tmp 43], argTypes := #[22] }, type := _, pos := _, after := _, guard := _ }) rfl (fun KK hKK => ?_) AllReadyH.nil
      have hKS := Lib.hid hKK
      clear hKK
      go_simp
      refine (hnum _).mono ?_
      rintro e w5 ⟨rfl, hx⟩
      go_wp2_with fail
      refine hKS.out.out _ _ (⟨⟨hHeld.1.1.below hx, hHeld.1.2.trans (hx.mono hHeld.1.2.size)⟩, hHeld.2.below hx⟩) (fun hHeld => ?_)
      replace oA := oA.below hx
      clear hKS KK hx
      try simp only [Act.put, List.setIfInBounds_toArray, List.set_cons_zero, List.set_cons_succ]
      refine wpAnyH_ready (rs := [7]) (by kernel_rfl) (by simp) ?_
      refine AllReadyH.cons (o := { dst := some 46, op := Op.buildSlice 36 3 #[(0, Operand.tmp 41), (1, Operand.tmp 44), (2, Operand.tmp 45)], type := _, pos := _, after := _, guard := _ }) rfl (fun KK hKK => ?_) AllReadyH.nil
      have hKS := Lib.hid hKK
      clear hKK
      go_simp
      have hx := grow w5 (Obj.cells #[.string c.m, .string (num8 c.n), .string (boxS c.K c.m c.n d)] 9)
      refine hKS.out.out _ _ ⟨⟨hHeld.1.1.below hx, hHeld.1.2.trans (hx.mono hHeld.1.2.size)⟩, hHeld.2.below hx⟩ (fun hHeld => ?_)
      have ts := ts_three w5 c.m (num8 c.n) (boxS c.K c.m c.n d)
      replace oA := oA.below hx
      clear hKS KK hx
      generalize w5.alloc (Obj.cells #[.string c.m, .string (num8 c.n), .string (boxS c.K c.m c.n d)] 9) = WB at *
      try simp only [Act.put, List.setIfInBounds_toArray, List.set_cons_zero, List.set_cons_succ]
      refine wpAnyH_ready (rs := [8]) (by kernel_rfl) (by simp) ?_
      refine AllReadyH.cons (o := { dst := some 47, op := Op.call { callee := Callee.value (Operand.func 31), args := #[Operand.tmp 46], argTypes := #[36] }, type := _, pos := _, after := _, guard := _ }) rfl (fun KK hKK => ?_) AllReadyH.nil
      have hKS := Lib.hid hKK
      clear hKK
      go_simp
      refine (Un.Nm.row_any _ 3 3 [c.m, num8 c.n, boxS c.K c.m c.n d] _ ts (by simp [Un.Nm.room, num8_size, hbox]; omega) (by omega)).mono ?_
      rintro e w8 ⟨rfl, hx⟩
      go_wp2_with fail
      refine hKS.out.out _ _ (⟨⟨hHeld.1.1.below hx, hHeld.1.2.trans (hx.mono hHeld.1.2.size)⟩, hHeld.2.below hx⟩) (fun hHeld => ?_)
      replace oA := oA.below hx
      clear hKS KK hx
      try simp only [Act.put, List.setIfInBounds_toArray, List.set_cons_zero, List.set_cons_succ]
      refine wpAnyH_ready (rs := [9]) (by kernel_rfl) (by simp) ?_
      refine AllReadyH.cons (o := { dst := none, op := Op.store 26 (Operand.tmp 4) (Operand.tmp 39), type := _, pos := _, after := _, guard := _ }) rfl (fun KK hKK => ?_) AllReadyH.nil
      have hKS := Lib.hid hKK
      clear hKK
      refine wst26 (d := ⟨c.m, c.n + 1, nxt c.K⟩) (c := zCh) (keyed_len _ _) rfl rfl rfl oA ?_
      have oR := oA.row ⟨c.m, c.n + 1, nxt c.K⟩ (keyed_len _ _)
      have bR := below_row hHeld.1.2 (show w.heap.size ≤ w.heap.size + 1 by omega) (chv ⟨c.m, c.n + 1, nxt c.K⟩)
      refine hKS.out.out _ _ ⟨⟨hHeld.1.1.rowOther _ (by omega), bR⟩, hHeld.2.rowOther _ (by omega)⟩ (fun hHeld => ?_)
      clear hKS KK oA
      try simp only [Act.put, List.setIfInBounds_toArray, List.set_cons_zero, List.set_cons_succ]
      refine wpAnyH_take (i := 10) (oi := { dst := some 5, op := Op.assign (Operand.tmp 47), type := _, pos := _, after := _, guard := _ }) (v := ?_) rfl (by kernel_rfl) (by kernel_rfl) (by kernel_rfl) (fun _ _ _ h => h) (Or.inl ⟨by rfl, ?_⟩) hHeld ?_
      rotate_left
      · intro wq hSw
        go_simp
        rfl
      try simp only [Act.put, List.setIfInBounds_toArray, List.set_cons_zero, List.set_cons_succ]
      refine wpAnyH_take (i := 11) (oi := { dst := some 6, op := Op.assign (Operand.const (Value.int IntKind.i64 0)), type := _, pos := _, after := _, guard := _ }) (v := ?_) rfl (by kernel_rfl) (by kernel_rfl) (by kernel_rfl) (fun _ _ _ h => h) (Or.inl ⟨by rfl, ?_⟩) hHeld ?_
      rotate_left
      · intro wq hSw
        go_simp
        rfl
      try simp only [Act.put, List.setIfInBounds_toArray, List.set_cons_zero, List.set_cons_succ]
      refine wpAnyH_done (by kernel_rfl) ?_ _
      go_wp2_with fail
      exact res26 rfl rfl rfl rfl oR rfl ⟨by rw [HR.out]; rfl, bR⟩
set_option maxHeartbeats 8000000 in
theorem rsend_any (c : Ch) (d : ByteArray) (w : World) (hc : c.Ok) (hm : c.m.size ≤ 1000) (hd : d.size ≤ 1000 ∨ 65536 < d.size) :
    Calls Tryd.prog 13 #[.agg (chv c), .string d] w fun e w' => e = .returned (rsv (sendR c d)) ∧ Below w.heap.size w w' := by
  have st0 := Sv.new w c hc.k
  have lK := hc.k
  have bK := hc.b
  have hcn := hc.n
  go_enter Tryd.func13, Tryd.ntmps13
  go_upto_region 1 with fail
  change Code.wp _ _ _ _ ((w.alloc (Obj.cells (chv c) 26)).alloc (Obj.cells (chv zCh) 26))
  generalize (w.alloc (Obj.cells (chv c) 26)).alloc (Obj.cells (chv zCh) 26) = W0 at *
  by_cases hbig : 65536 < d.size
  · have hb : 65536 < (d.size : Int) := by omega
    have HR := Lib.hid (show sendR c d = bad 6 from if_pos hbig)
    go_wp2_with (first | refine bld26z rfl rfl ?_ | refine sto26 (d := zCh) (c := zCh) zCh_ok.k rfl rfl rfl rfl st0.r ?_)
    exact res26 rfl rfl rfl rfl (st0.r.row zCh zCh_ok.k) rfl ⟨by rw [HR.out]; rfl, below_row st0.b (by omega) _⟩
  have hb : ¬ 65536 < (d.size : Int) := by omega
  have hd1 : d.size ≤ 1000 := by omega
  have c1 := st0.a.c1
  by_cases hn : c.n = 18446744073709551615
  · have hn' : (c.n : Int) = 18446744073709551615 := by omega
    have HR := Lib.hid (show sendR c d = bad 2 by unfold sendR; rw [if_neg hbig, if_pos hn])
    rw [hn'] at c1
    go_wp2_with (first | refine bld26z rfl rfl ?_ | refine sto26 (d := zCh) (c := zCh) zCh_ok.k rfl rfl rfl rfl st0.r ?_)
    exact res26 rfl rfl rfl rfl (st0.r.row zCh zCh_ok.k) rfl ⟨by rw [HR.out]; rfl, below_row st0.b (by omega) _⟩
  have hn' : ((c.n : Int) == 18446744073709551615) = false := by rw [beq_eq_false_iff_ne]; omega
  have hn2 : c.n + 1 < 18446744073709551616 := by omega
  have e1 : IntKind.u64.wrap ((c.n : Int) + 1) = ((c.n + 1 : Nat) : Int) := by rw [IntWalk.u64_in _ (by omega)]; omega
  have hhs := headD_size c.m c.n (by omega)
  have HR := Lib.hid (show sendR c d = (⟨c.m, c.n + 1, nxt c.K⟩, frameD c d, 0) from send_ok c d (by omega) (by omega))
  have hkey := fun wr (o : Sv w c wr) => of43_any c.K ⟨#[115, 101, 110, 100]⟩ wr bK lK (by decide)
  rw [tn_send] at hkey
  have hnon := fun wr => rnonce8_any c.n wr hcn
  have hhead := fun wr => rhead_any c.m c.n wr hcn (by omega)
  have hseal := fun wr (o : Sv w c wr) => rseal_any (Bl.keyed c.K wS) (nonD (num8 c.n)) (headD c.m c.n) d wr (keyed_by _ _) (nonD8_by _) (keyed_len _ _) (nonD8_len _) (by omega) (by omega)
  have hnx := fun wr (o : Sv w c wr) => rnext_any c.K wr bK lK
  have hnum := fun wr => rnum_any c.n wr hcn
  have hbox := boxS_size c.K c.m c.n d
  have HB := Lib.hid (show boxD (Bl.keyed c.K wS) (nonD (num8 c.n)) (headD c.m c.n) d = boxS c.K c.m c.n d from rfl)
  go_upto_region 5 with fail
  clear c1
  go_cut [7] from 17 to 29 (fun s7 wc => s7 = .string (boxS c.K c.m c.n d) ∧ Sv w c wc)
  case first =>
    refine wp_region_held_drew (S := fun V => Sv w c V) (by kernel_rfl) st0.drew (fun hHeld => ?_)
    clear st0
    generalize W0.drew = W1 at *
    refine wpAnyH_take (i := 0) (oi := { dst := some 17, op := Op.fieldAddr 26 (Operand.tmp 2) 2, type := _, pos := _, after := _, guard := _ }) (v := ?_) rfl (by kernel_rfl) (by kernel_rfl) (by kernel_rfl) (fun _ _ _ h => h) (Or.inl ⟨by rfl, ?_⟩) hHeld ?_
    rotate_left
    · intro wq hSw
      go_simp
      rfl
    try simp only [Act.put, List.setIfInBounds_toArray, List.set_cons_zero, List.set_cons_succ]
    refine wpAnyH_take (i := 1) (oi := { dst := some 18, op := Op.load 24 (Operand.tmp 17), type := _, pos := _, after := _, guard := _ }) rfl (by kernel_rfl) (by kernel_rfl) (by kernel_rfl) (fun _ _ _ h => h) (ylk (by rfl) _ rfl _ rfl (fun w1 h => h.a) lK) hHeld ?_
    try simp only [Act.put, List.setIfInBounds_toArray, List.set_cons_zero, List.set_cons_succ]
    refine wpAnyH_take (i := 3) (oi := { dst := some 20, op := Op.fieldAddr 26 (Operand.tmp 2) 1, type := _, pos := _, after := _, guard := _ }) (v := ?_) rfl (by kernel_rfl) (by kernel_rfl) (by kernel_rfl) (fun _ _ _ h => h) (Or.inl ⟨by rfl, ?_⟩) hHeld ?_
    rotate_left
    · intro wq hSw
      go_simp
      rfl
    try simp only [Act.put, List.setIfInBounds_toArray, List.set_cons_zero, List.set_cons_succ]
    refine wpAnyH_take (i := 4) (oi := { dst := some 21, op := Op.load 22 (Operand.tmp 20), type := _, pos := _, after := _, guard := _ }) (v := ?_) rfl (by kernel_rfl) (by kernel_rfl) (by kernel_rfl) (fun _ _ _ h => h) (Or.inl ⟨by rfl, ?_⟩) hHeld ?_
    rotate_left
    · intro wq hSw
      have c1 := hSw.a.c1
      go_simp
      rfl
    try simp only [Act.put, List.setIfInBounds_toArray, List.set_cons_zero, List.set_cons_succ]
    refine wpAnyH_take (i := 6) (oi := { dst := some 23, op := Op.fieldAddr 26 (Operand.tmp 2) 0, type := _, pos := _, after := _, guard := _ }) (v := ?_) rfl (by kernel_rfl) (by kernel_rfl) (by kernel_rfl) (fun _ _ _ h => h) (Or.inl ⟨by rfl, ?_⟩) hHeld ?_
    rotate_left
    · intro wq hSw
      go_simp
      rfl
    try simp only [Act.put, List.setIfInBounds_toArray, List.set_cons_zero, List.set_cons_succ]
    refine wpAnyH_take (i := 7) (oi := { dst := some 24, op := Op.load 9 (Operand.tmp 23), type := _, pos := _, after := _, guard := _ }) (v := ?_) rfl (by kernel_rfl) (by kernel_rfl) (by kernel_rfl) (fun _ _ _ h => h) (Or.inl ⟨by rfl, ?_⟩) hHeld ?_
    rotate_left
    · intro wq hSw
      have c0 := hSw.a.c0
      go_simp
      rfl
    try simp only [Act.put, List.setIfInBounds_toArray, List.set_cons_zero, List.set_cons_succ]
    refine wpAnyH_take (i := 8) (oi := { dst := some 25, op := Op.fieldAddr 26 (Operand.tmp 2) 1, type := _, pos := _, after := _, guard := _ }) (v := ?_) rfl (by kernel_rfl) (by kernel_rfl) (by kernel_rfl) (fun _ _ _ h => h) (Or.inl ⟨by rfl, ?_⟩) hHeld ?_
    rotate_left
    · intro wq hSw
      go_simp
      rfl
    try simp only [Act.put, List.setIfInBounds_toArray, List.set_cons_zero, List.set_cons_succ]
    refine wpAnyH_take (i := 9) (oi := { dst := some 26, op := Op.load 22 (Operand.tmp 25), type := _, pos := _, after := _, guard := _ }) (v := ?_) rfl (by kernel_rfl) (by kernel_rfl) (by kernel_rfl) (fun _ _ _ h => h) (Or.inl ⟨by rfl, ?_⟩) hHeld ?_
    rotate_left
    · intro wq hSw
      have c1 := hSw.a.c1
      go_simp
      rfl
    try simp only [Act.put, List.setIfInBounds_toArray, List.set_cons_zero, List.set_cons_succ]
    refine wpAnyH_take (i := 11) (oi := { dst := some 28, op := Op.move (Operand.tmp 1), type := _, pos := _, after := _, guard := _ }) (v := ?_) rfl (by kernel_rfl) (by kernel_rfl) (by kernel_rfl) (fun _ _ _ h => h) (Or.inl ⟨by rfl, ?_⟩) hHeld ?_
    rotate_left
    · intro wq hSw
      go_simp
      rfl
    try simp only [Act.put, List.setIfInBounds_toArray, List.set_cons_zero, List.set_cons_succ]
    refine wpAnyH_ready (rs := [2]) (by kernel_rfl) (by simp) ?_
    refine AllReadyH.cons (o := { dst := some 19, op := Op.call { callee := Callee.value (Operand.func 24), args := #[Operand.tmp 18, Operand.const (Value.string { data := #[115, 101, 110, 100] })], argTypes := #[24, 9] }, type := _, pos := _, after := _, guard := _ }) rfl (fun KK hKK => ?_) AllReadyH.nil
    have hKS := Lib.hid hKK
    clear hKK
    go_simp
    refine (hkey _ hHeld).mono ?_
    rintro e w2 ⟨rfl, hx⟩
    go_wp2_with fail
    refine hKS.out.out _ _ (hHeld.below hx) (fun hHeld => ?_)
    clear hKS KK hx
    try simp only [Act.put, List.setIfInBounds_toArray, List.set_cons_zero, List.set_cons_succ]
    refine wpAnyH_ready (rs := [5]) (by kernel_rfl) (by simp) ?_
    refine AllReadyH.cons (o := { dst := some 22, op := Op.call { callee := Callee.value (Operand.func 34), args := #[Operand.tmp 21], argTypes := #[22] }, type := _, pos := _, after := _, guard := _ }) rfl (fun KK hKK => ?_) AllReadyH.nil
    have hKS := Lib.hid hKK
    clear hKK
    go_simp
    refine (hnon _).mono ?_
    rintro e w5 ⟨rfl, hx⟩
    go_wp2_with fail
    refine hKS.out.out _ _ (hHeld.below hx) (fun hHeld => ?_)
    clear hKS KK hx
    try simp only [Act.put, List.setIfInBounds_toArray, List.set_cons_zero, List.set_cons_succ]
    refine wpAnyH_ready (rs := [10]) (by kernel_rfl) (by simp) ?_
    refine AllReadyH.cons (o := { dst := some 27, op := Op.call { callee := Callee.value (Operand.func 23), args := #[Operand.tmp 24, Operand.tmp 26], argTypes := #[9, 22] }, type := _, pos := _, after := _, guard := _ }) rfl (fun KK hKK => ?_) AllReadyH.nil
    have hKS := Lib.hid hKK
    clear hKK
    go_simp
    refine (hhead _).mono ?_
    rintro e w10 ⟨rfl, hx⟩
    go_wp2_with fail
    refine hKS.out.out _ _ (hHeld.below hx) (fun hHeld => ?_)
    clear hKS KK hx
    try simp only [Act.put, List.setIfInBounds_toArray, List.set_cons_zero, List.set_cons_succ]
    refine wpAnyH_ready (rs := [12]) (by kernel_rfl) (by simp) ?_
    refine AllReadyH.cons (o := { dst := some 29, op := Op.call { callee := Callee.value (Operand.func 33), args := #[Operand.tmp 19, Operand.tmp 22, Operand.tmp 27, Operand.tmp 28], argTypes := #[24, 54, 9, 9] }, type := _, pos := _, after := _, guard := _ }) rfl (fun KK hKK => ?_) AllReadyH.nil
    have hKS := Lib.hid hKK
    clear hKK
    go_simp
    refine (hseal _ hHeld).mono ?_
    rintro e w12 ⟨rfl, hx⟩
    go_wp2_with fail
    rw [HB.out]
    refine hKS.out.out _ _ (hHeld.below hx) (fun hHeld => ?_)
    clear hKS KK hx
    try simp only [Act.put, List.setIfInBounds_toArray, List.set_cons_zero, List.set_cons_succ]
    refine wpAnyH_take (i := 13) (oi := { dst := some 7, op := Op.assign (Operand.tmp 29), type := _, pos := _, after := _, guard := _ }) (v := ?_) rfl (by kernel_rfl) (by kernel_rfl) (by kernel_rfl) (fun _ _ _ h => h) (Or.inl ⟨by rfl, ?_⟩) hHeld ?_
    rotate_left
    · intro wq hSw
      go_simp
      rfl
    try simp only [Act.put, List.setIfInBounds_toArray, List.set_cons_zero, List.set_cons_succ]
    refine wpAnyH_done (by kernel_rfl) ?_ _
    go_wp2_with fail
    go_meet
    case rel => exact ⟨rfl, hHeld⟩
  case rest =>
    obtain ⟨rfl, st⟩ := hcut
    clear hkey hnon hhead hseal HB
    go_upto_region 6 with fail
    go_cut [8] from 30 to 37 (fun s8 wc => s8 = .string (frameD c d) ∧ Sv w c wc)
    case first =>
      refine wp_region_held_drew (S := fun V => Sv w c V) (by kernel_rfl) st.drew (fun hHeld => ?_)
      clear st
      generalize wc.drew = W1 at *
      refine wpAnyH_take (i := 0) (oi := { dst := some 30, op := Op.fieldAddr 26 (Operand.tmp 2) 0, type := _, pos := _, after := _, guard := _ }) (v := ?_) rfl (by kernel_rfl) (by kernel_rfl) (by kernel_rfl) (fun _ _ _ h => h) (Or.inl ⟨by rfl, ?_⟩) hHeld ?_
      rotate_left
      · intro wq hSw
        go_simp
        rfl
      try simp only [Act.put, List.setIfInBounds_toArray, List.set_cons_zero, List.set_cons_succ]
      refine wpAnyH_take (i := 1) (oi := { dst := some 31, op := Op.load 9 (Operand.tmp 30), type := _, pos := _, after := _, guard := _ }) (v := ?_) rfl (by kernel_rfl) (by kernel_rfl) (by kernel_rfl) (fun _ _ _ h => h) (Or.inl ⟨by rfl, ?_⟩) hHeld ?_
      rotate_left
      · intro wq hSw
        have c0 := hSw.a.c0
        go_simp
        rfl
      try simp only [Act.put, List.setIfInBounds_toArray, List.set_cons_zero, List.set_cons_succ]
      refine wpAnyH_take (i := 2) (oi := { dst := some 32, op := Op.fieldAddr 26 (Operand.tmp 2) 1, type := _, pos := _, after := _, guard := _ }) (v := ?_) rfl (by kernel_rfl) (by kernel_rfl) (by kernel_rfl) (fun _ _ _ h => h) (Or.inl ⟨by rfl, ?_⟩) hHeld ?_
      rotate_left
      · intro wq hSw
        go_simp
        rfl
      try simp only [Act.put, List.setIfInBounds_toArray, List.set_cons_zero, List.set_cons_succ]
      refine wpAnyH_take (i := 3) (oi := { dst := some 33, op := Op.load 22 (Operand.tmp 32), type := _, pos := _, after := _, guard := _ }) (v := ?_) rfl (by kernel_rfl) (by kernel_rfl) (by kernel_rfl) (fun _ _ _ h => h) (Or.inl ⟨by rfl, ?_⟩) hHeld ?_
      rotate_left
      · intro wq hSw
        have c1 := hSw.a.c1
        go_simp
        rfl
      try simp only [Act.put, List.setIfInBounds_toArray, List.set_cons_zero, List.set_cons_succ]
      refine wpAnyH_take (i := 5) (oi := { dst := some 35, op := Op.move (Operand.tmp 7), type := _, pos := _, after := _, guard := _ }) (v := ?_) rfl (by kernel_rfl) (by kernel_rfl) (by kernel_rfl) (fun _ _ _ h => h) (Or.inl ⟨by rfl, ?_⟩) hHeld ?_
      rotate_left
      · intro wq hSw
        go_simp
        rfl
      try simp only [Act.put, List.setIfInBounds_toArray, List.set_cons_zero, List.set_cons_succ]
      refine wpAnyH_ready (rs := [4]) (by kernel_rfl) (by simp) ?_
      refine AllReadyH.cons (o := { dst := some 34, op := Op.call { callee := Callee.value (Operand.func 35), args := #[Operand.tmp 33, Operand.const (Value.int IntKind.i64 8)], argTypes := #[22, 3] }, type := _, pos := _, after := _, guard := _ }) rfl (fun KK hKK => ?_) AllReadyH.nil
      have hKS := Lib.hid hKK
      clear hKK
      go_simp
      refine (hnum _).mono ?_
      rintro e w4 ⟨rfl, hx⟩
      go_wp2_with fail
      refine hKS.out.out _ _ (hHeld.below hx) (fun hHeld => ?_)
      clear hKS KK hx
      try simp only [Act.put, List.setIfInBounds_toArray, List.set_cons_zero, List.set_cons_succ]
      refine wpAnyH_ready (rs := [6]) (by kernel_rfl) (by simp) ?_
      refine AllReadyH.cons (o := { dst := some 36, op := Op.buildSlice 36 3 #[(0, Operand.tmp 31), (1, Operand.tmp 34), (2, Operand.tmp 35)], type := _, pos := _, after := _, guard := _ }) rfl (fun KK hKK => ?_) AllReadyH.nil
      have hKS := Lib.hid hKK
      clear hKK
      go_simp
      have hx := grow w4 (Obj.cells #[.string c.m, .string (num8 c.n), .string (boxS c.K c.m c.n d)] 9)
      refine hKS.out.out _ _ (hHeld.below hx) (fun hHeld => ?_)
      have ts := ts_three w4 c.m (num8 c.n) (boxS c.K c.m c.n d)
      clear hKS KK hx
      generalize w4.alloc (Obj.cells #[.string c.m, .string (num8 c.n), .string (boxS c.K c.m c.n d)] 9) = WB at *
      try simp only [Act.put, List.setIfInBounds_toArray, List.set_cons_zero, List.set_cons_succ]
      refine wpAnyH_ready (rs := [7]) (by kernel_rfl) (by simp) ?_
      refine AllReadyH.cons (o := { dst := some 37, op := Op.call { callee := Callee.value (Operand.func 25), args := #[Operand.tmp 36], argTypes := #[36] }, type := _, pos := _, after := _, guard := _ }) rfl (fun KK hKK => ?_) AllReadyH.nil
      have hKS := Lib.hid hKK
      clear hKK
      go_simp
      refine (Un.Nm.rrow_any _ 3 3 [c.m, num8 c.n, boxS c.K c.m c.n d] _ ts (by simp [Un.Nm.room, num8_size, hbox]; omega) (by omega)).mono ?_
      rintro e w7 ⟨rfl, hx⟩
      go_wp2_with fail
      refine hKS.out.out _ _ (hHeld.below hx) (fun hHeld => ?_)
      clear hKS KK hx
      try simp only [Act.put, List.setIfInBounds_toArray, List.set_cons_zero, List.set_cons_succ]
      refine wpAnyH_take (i := 8) (oi := { dst := some 8, op := Op.assign (Operand.tmp 37), type := _, pos := _, after := _, guard := _ }) (v := ?_) rfl (by kernel_rfl) (by kernel_rfl) (by kernel_rfl) (fun _ _ _ h => h) (Or.inl ⟨by rfl, ?_⟩) hHeld ?_
      rotate_left
      · intro wq hSw
        go_simp
        rfl
      try simp only [Act.put, List.setIfInBounds_toArray, List.set_cons_zero, List.set_cons_succ]
      refine wpAnyH_done (by kernel_rfl) ?_ _
      go_wp2_with fail
      go_meet
      case rel => exact ⟨rfl, hHeld⟩
    case rest =>
      obtain ⟨rfl, st⟩ := hcut
      clear hnum hnx
      have oA := st.r.drew
      go_upto_region 7 with fail
      refine wp_region_held_drew (S := fun V => Cb V w.heap.size c ∧ Below w.heap.size w V) (by kernel_rfl) ⟨st.drew.a, st.drew.b⟩ (fun hHeld => ?_)
      clear st
      generalize wc.drew = W1 at *
      refine wpAnyH_take (i := 0) (oi := { dst := some 38, op := Op.fieldAddr 26 (Operand.tmp 2) 0, type := _, pos := _, after := _, guard := _ }) (v := ?_) rfl (by kernel_rfl) (by kernel_rfl) (by kernel_rfl) (fun _ _ _ h => h) (Or.inl ⟨by rfl, ?_⟩) hHeld ?_
      rotate_left
      · intro wq hSw
        go_simp
        rfl
      try simp only [Act.put, List.setIfInBounds_toArray, List.set_cons_zero, List.set_cons_succ]
      refine wpAnyH_take (i := 1) (oi := { dst := some 39, op := Op.load 9 (Operand.tmp 38), type := _, pos := _, after := _, guard := _ }) (v := ?_) rfl (by kernel_rfl) (by kernel_rfl) (by kernel_rfl) (fun _ _ _ h => h) (Or.inl ⟨by rfl, ?_⟩) hHeld ?_
      rotate_left
      · intro wq hSw
        have c0 := hSw.1.c0
        go_simp
        rfl
      try simp only [Act.put, List.setIfInBounds_toArray, List.set_cons_zero, List.set_cons_succ]
      refine wpAnyH_take (i := 2) (oi := { dst := some 40, op := Op.fieldAddr 26 (Operand.tmp 2) 1, type := _, pos := _, after := _, guard := _ }) (v := ?_) rfl (by kernel_rfl) (by kernel_rfl) (by kernel_rfl) (fun _ _ _ h => h) (Or.inl ⟨by rfl, ?_⟩) hHeld ?_
      rotate_left
      · intro wq hSw
        go_simp
        rfl
      try simp only [Act.put, List.setIfInBounds_toArray, List.set_cons_zero, List.set_cons_succ]
      refine wpAnyH_take (i := 3) (oi := { dst := some 41, op := Op.load 22 (Operand.tmp 40), type := _, pos := _, after := _, guard := _ }) (v := ?_) rfl (by kernel_rfl) (by kernel_rfl) (by kernel_rfl) (fun _ _ _ h => h) (Or.inl ⟨by rfl, ?_⟩) hHeld ?_
      rotate_left
      · intro wq hSw
        have c1 := hSw.1.c1
        go_simp
        rfl
      try simp only [Act.put, List.setIfInBounds_toArray, List.set_cons_zero, List.set_cons_succ]
      refine wpAnyH_take (i := 4) (oi := { dst := some 42, op := Op.binOp BinOp.add 22 (Operand.tmp 41) (Operand.const (Value.int IntKind.u64 1)) 22, type := _, pos := _, after := _, guard := _ }) (v := ?_) rfl (by kernel_rfl) (by kernel_rfl) (by kernel_rfl) (fun _ _ _ h => h) (Or.inl ⟨by rfl, ?_⟩) hHeld ?_
      rotate_left
      · intro wq hSw
        go_simp
        rfl
      try simp only [Act.put, List.setIfInBounds_toArray, List.set_cons_zero, List.set_cons_succ]
      refine wpAnyH_take (i := 5) (oi := { dst := some 43, op := Op.fieldAddr 26 (Operand.tmp 2) 2, type := _, pos := _, after := _, guard := _ }) (v := ?_) rfl (by kernel_rfl) (by kernel_rfl) (by kernel_rfl) (fun _ _ _ h => h) (Or.inl ⟨by rfl, ?_⟩) hHeld ?_
      rotate_left
      · intro wq hSw
        go_simp
        rfl
      try simp only [Act.put, List.setIfInBounds_toArray, List.set_cons_zero, List.set_cons_succ]
      refine wpAnyH_take (i := 6) (oi := { dst := some 44, op := Op.load 24 (Operand.tmp 43), type := _, pos := _, after := _, guard := _ }) rfl (by kernel_rfl) (by kernel_rfl) (by kernel_rfl) (fun _ _ _ h => h) (ylk (by rfl) _ rfl _ rfl (fun w1 h => h.1) lK) hHeld ?_
      try simp only [Act.put, List.setIfInBounds_toArray, List.set_cons_zero, List.set_cons_succ]
      refine wpAnyH_take (i := 9) (oi := { dst := some 47, op := Op.move (Operand.tmp 8), type := _, pos := _, after := _, guard := _ }) (v := ?_) rfl (by kernel_rfl) (by kernel_rfl) (by kernel_rfl) (fun _ _ _ h => h) (Or.inl ⟨by rfl, ?_⟩) hHeld ?_
      rotate_left
      · intro wq hSw
        go_simp
        rfl
      try simp only [Act.put, List.setIfInBounds_toArray, List.set_cons_zero, List.set_cons_succ]
      refine wpAnyH_ready (rs := [7]) (by kernel_rfl) (by simp) ?_
      refine AllReadyH.cons (o := { dst := some 45, op := Op.call { callee := Callee.value (Operand.func 15), args := #[Operand.tmp 44], argTypes := #[24] }, type := _, pos := _, after := _, guard := _ }) rfl (fun KK hKK => ?_) AllReadyH.nil
      have hKS := Lib.hid hKK
      clear hKK
      go_simp
      refine (rnext_any c.K _ bK lK).mono ?_
      rintro e w7 ⟨rfl, hx⟩
      go_wp2_with fail
      refine hKS.out.out _ _ (⟨hHeld.1.below hx, hHeld.2.trans (hx.mono hHeld.2.size)⟩) (fun hHeld => ?_)
      replace oA := oA.below hx
      clear hKS KK hx
      try simp only [Act.put, List.setIfInBounds_toArray, List.set_cons_zero, List.set_cons_succ]
      refine wpAnyH_take (i := 8) (oi := { dst := some 46, op := Op.build 26 #[(0, Operand.tmp 39), (1, Operand.tmp 42), (2, Operand.tmp 45)], type := _, pos := _, after := _, guard := _ }) rfl (by kernel_rfl) (by kernel_rfl) (by kernel_rfl) (fun _ _ _ h => h) (ybld26 ⟨c.m, c.n + 1, nxt c.K⟩ (keyed_len _ _) (by rfl) rfl rfl rfl rfl) hHeld ?_
      try simp only [Act.put, List.setIfInBounds_toArray, List.set_cons_zero, List.set_cons_succ]
      refine wpAnyH_ready (rs := [10]) (by kernel_rfl) (by simp) ?_
      refine AllReadyH.cons (o := { dst := none, op := Op.store 26 (Operand.tmp 4) (Operand.tmp 46), type := _, pos := _, after := _, guard := _ }) rfl (fun KK hKK => ?_) AllReadyH.nil
      have hKS := Lib.hid hKK
      clear hKK
      refine wst26 (d := ⟨c.m, c.n + 1, nxt c.K⟩) (c := zCh) (keyed_len _ _) rfl rfl rfl oA ?_
      have oR := oA.row ⟨c.m, c.n + 1, nxt c.K⟩ (keyed_len _ _)
      have bR := below_row hHeld.2 (show w.heap.size ≤ w.heap.size + 1 by omega) (chv ⟨c.m, c.n + 1, nxt c.K⟩)
      refine hKS.out.out _ _ ⟨hHeld.1.rowOther _ (by omega), bR⟩ (fun hHeld => ?_)
      clear hKS KK oA
      try simp only [Act.put, List.setIfInBounds_toArray, List.set_cons_zero, List.set_cons_succ]
      refine wpAnyH_take (i := 11) (oi := { dst := some 5, op := Op.assign (Operand.tmp 47), type := _, pos := _, after := _, guard := _ }) (v := ?_) rfl (by kernel_rfl) (by kernel_rfl) (by kernel_rfl) (fun _ _ _ h => h) (Or.inl ⟨by rfl, ?_⟩) hHeld ?_
      rotate_left
      · intro wq hSw
        go_simp
        rfl
      try simp only [Act.put, List.setIfInBounds_toArray, List.set_cons_zero, List.set_cons_succ]
      refine wpAnyH_take (i := 12) (oi := { dst := some 6, op := Op.assign (Operand.const (Value.int IntKind.i64 0)), type := _, pos := _, after := _, guard := _ }) (v := ?_) rfl (by kernel_rfl) (by kernel_rfl) (by kernel_rfl) (fun _ _ _ h => h) (Or.inl ⟨by rfl, ?_⟩) hHeld ?_
      rotate_left
      · intro wq hSw
        go_simp
        rfl
      try simp only [Act.put, List.setIfInBounds_toArray, List.set_cons_zero, List.set_cons_succ]
      refine wpAnyH_done (by kernel_rfl) ?_ _
      go_wp2_with fail
      exact res26 rfl rfl rfl rfl oR rfl ⟨by rw [HR.out]; rfl, bR⟩
end Go.Proofs.YtaoaebdjinlcnaaDoor
