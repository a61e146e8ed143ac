/-
  THE WALK of a digest, of the code.
-/
import Derived.Test.YtaoaebdjinlcnaaDoorTk
import Derived.Test.YtaoaebdjinlcnaaDoorSb
import Derived.Deep.RegionHeld3
import Derived.Lib.BufferWrite
set_option linter.unusedVariables false
set_option linter.unusedSimpArgs false
set_option maxRecDepth 100000
namespace Go.Proofs.YtaoaebdjinlcnaaDoor
open Go.RowKit
/-- an array that lies known whole may be loaded first -/
theorem yl {ty : TypeId} {n : Nat} (T : ArrT ty n) {ops : Array Oper} {S : World → Prop} {o : Oper} {a : Act} (hw : Region.wanted o (yielded ops a.tmps) = true) (x : Operand) (ho : o.op = .load ty x) (g : Nat)
    (hx : a.eval x = .pointer (some ⟨g, 0, none⟩)) {t : TypeId} {k : IntKind} {l : List Nat} (hS : ∀ w, S w → Own w g t (vs k l)) (hl : l.length = n) : YieldsIf Tryd.prog ops S o (.agg (vs k l)) a :=
  .inl ⟨hw, fun w hw' => by
    obtain ⟨e, hu⟩ := T.und
    unfold execOp
    simp only [ho, hx, Instr.loadAt, Instr.sureAddr, Sem.run_bind, Sem.run_pure, Result.andThen_ok, run_loadVar_row w g t ty (vs k l) (0, 0) _ (hS w hw') hu rfl (by rw [T.siz, vs_size, hl])]⟩
/-- an array is stored -/
theorem ss {ty : TypeId} {n : Nat} (T : ArrT ty n) {o : Oper} {a : Act} {w : World} {K : Act → World → Prop} {Q : Exit → Act → World → Prop} (x y : Operand) (ho : o.op = .store ty x y) (g : Nat) {k k' : IntKind} {l l' : List Nat}
    (hx : a.eval x = .pointer (some ⟨g, 0, none⟩)) (hy : a.eval y = .agg (vs k l)) {t : TypeId} (hg : Own w g t (vs k' l')) (hl' : l'.length = n) (hl : l.length = n)
    (h : K (a.put o.dst undef) (w.setRow g (vs k l))) : o.wp Tryd.prog a w K Q :=
  wp_store_row ty x y ho g (vs k l) hx hy t (vs k' l') hg (by rw [T.siz, vs_size, hl]) (by rw [vs_size, vs_size, hl, hl']) (vs_one k l) h
theorem lw {ty : TypeId} {n : Nat} (T : ArrT ty n) {o : Oper} {a : Act} {w : World} {K : Act → World → Prop} {Q : Exit → Act → World → Prop} (x : Operand) (ho : o.op = .load ty x) (g : Nat)
    (hx : a.eval x = .pointer (some ⟨g, 0, none⟩)) {t : TypeId} {k : IntKind} {l : List Nat} (hg : Own w g t (vs k l)) (hl : l.length = n) (h : K (a.put o.dst (.agg (vs k l))) w) : o.wp Tryd.prog a w K Q := by
  obtain ⟨e, hu⟩ := T.und
  exact wp_load_row ty x ho g hx t (vs k l) (0, 0) _ hg hu rfl (by rw [T.siz, vs_size, hl]) h
theorem vs_cells (s : ByteArray) : Lib.byteCells s.data.toList = (vs .u8 (tn s)).toList := by
  simp [Lib.byteCells, vs, tn]
/-- a text is copied into an array -/
theorem cp {o : Oper} {a : Act} {w : World} {K : Act → World → Prop} {Q : Exit → Act → World → Prop} (d x : Operand) (ho : o.op = .call { callee := .builtin .copy, args := #[d, x], argTypes := #[45, 9] }) (g n : Nat)
    (hd : a.eval d = .slice (some ⟨g, 0, none⟩) n n) (s : ByteArray) (hx : a.eval x = .string s) {t : TypeId} {l : List Nat} (hg : Own w g t (vs .u8 l)) (hl : l.length = n) (hs : s.size ≤ n)
    (h : K (a.put o.dst (goInt s.size)) (w.setRow g (vs .u8 (tn s ++ l.drop s.size)))) : o.wp Tryd.prog a w K Q := by
  have e := Lib.run_copy_row_string (P := Tryd.prog) w 45 9 o.type 5 g 0 n n s (vs .u8 l) t Tryd.underlying45 (by kernel_rfl) hg hs (by rw [vs_size, hl]; omega)
  have e2 : ((vs .u8 l).toList.take 0 ++ Lib.byteCells s.data.toList ++ (vs .u8 l).toList.drop (0 + s.size)).toArray = vs .u8 (tn s ++ l.drop s.size) := by
    rw [vs_cells]
    simp [vs]
  rw [e2] at e
  unfold Oper.wp
  simp [execOp, ho, resolve, invoke, builtin, hd, hx, e, Result.andThen]
  exact h
/-- the blocks of a call of the code's 'digest' -/
structure DgIs (w wr : World) (B : Nat) (H : List Nat) : Prop where
  h : Own wr B 88 (vs .u32 H)
  r : Own wr (B + 1) 64 (vs .u8 (List.replicate 32 0))
  t : Tab wr
  b : Below B w wr
theorem DgIs.below {w wr w1 : World} {B : Nat} {H : List Nat} (o : DgIs w wr B H) (hx : Below wr.heap.size wr w1) : DgIs w w1 B H :=
  have := o.r.lt
  ⟨Below.own hx o.h (by omega), Below.own hx o.r (by omega), o.t.below hx, o.b.trans (hx.mono (by omega))⟩
theorem DgIs.row {w wr : World} {B : Nat} {H : List Nat} (o : DgIs w wr B H) (hB : 2 < B) (H' : List Nat) : DgIs w (wr.setRow B (vs .u32 H')) B H' :=
  ⟨o.h.row _, o.r.rowOther _ _ (by omega), o.t.only ((Only.refl B _).row _) hB, below_row o.b (by omega) _⟩
theorem DgIs.drew {w wr : World} {B : Nat} {H : List Nat} (o : DgIs w wr B H) : DgIs w wr.drew B H := ⟨o.h, o.r, ⟨o.t.1, o.t.2⟩, o.b.drew⟩
theorem words_ok (s : ByteArray) : Bl.Ok 16 (Bl.words (tn s)) := ⟨words_length _, fun x hx => by
  obtain ⟨i, hi, rfl⟩ := List.getElem_of_mem hx
  rw [words_length] at hi
  rw [← Bl.nth_lt (by rw [words_length]; exact hi), words_nth _ hi]
  have := fun j => (tn_by s).nth j
  have h0 := this (4 * i); have h1 := this (4 * i + 1); have h2 := this (4 * i + 2); have h3 := this (4 * i + 3)
  unfold Bl.word; omega⟩
theorem take_ok {H M : List Nat} (hH : Bl.Ok 8 H) (n : Nat) (last : Bool) : Bl.Ok 8 (Bl.take H M n last) := Bl.fin_ok hH (Bl.rounds_ok (Bl.start_ok hH n last) 10)
theorem blocks_ok {H t : List Nat} (hH : Bl.Ok 8 H) : ∀ k, Bl.Ok 8 (Bl.blocks H t k)
  | 0 => hH
  | k + 1 => take_ok (blocks_ok hH k) _ _
theorem blocks_next (H : List Nat) (s : ByteArray) (k q p : Nat) (hq : q = 64 * k) (hp : p = q + 64) : Bl.blocks H (tn s) (k + 1) = Bl.take (Bl.blocks H (tn s) k) (Bl.words (tn (s.extract q p))) p false := by
  subst hq hp
  rw [Bl.blocks, tn_extract, List.drop_take, show 64 * k + 64 - 64 * k = 64 from by omega, show 64 * (k + 1) = 64 * k + 64 from by omega]
set_option maxRecDepth 100000 in
set_option maxHeartbeats 1000000 in
theorem digest_any (H : List Nat) (s : ByteArray) (hH : Bl.Ok 8 H) (hs : s.size ≤ 4611686018427387904) (w : World) (hT : Tab w) :
    Calls Tryd.prog 73 #[.agg (vs .u32 H), .string s] w fun e w' => e = .returned (.agg (vs .u8 (Bl.digest H (tn s)))) ∧ Below w.heap.size w w' := by
  have hB := hT.lt
  have lD : (Bl.digest H (tn s)).length = 32 := by simp [Bl.digest]
  have hDn : ∀ i, i < 32 → Bl.nth (Bl.digest H (tn s)) i = Bl.nth (Bl.state H (tn s)) (i / 4) / 256 ^ (i % 4) % 256 := fun i hi => by
    rw [Bl.nth_lt (by simp [Bl.digest]; exact hi)]; simp [Bl.digest]
  generalize Bl.digest H (tn s) = D at *
  have HD := Lib.hid hDn
  clear hDn
  obtain ⟨W0, hW0⟩ : ∃ W0, W0 = (w.alloc (Obj.cells (vs .u32 H) 88)).alloc (Obj.cells (vs .u8 (List.replicate 32 0)) 64) := ⟨_, rfl⟩
  have o0 : Own W0 w.heap.size 88 (vs .u32 H) := by rw [hW0]; exact (Own.new' _ _ _ rfl).alloc _
  have o1 : Own W0 (w.heap.size + 1) 64 (vs .u8 (List.replicate 32 0)) := by rw [hW0]; exact Own.new' _ _ _ (by simp)
  have hb0 : Below w.heap.size w W0 := by rw [hW0]; exact ((Below.refl _ w).alloc (by simp) _).alloc (by simp) _
  have st : DgIs w W0 w.heap.size (Bl.blocks H (tn s) 0) := ⟨o0, o1, hT.below hb0, hb0⟩
  clear o0 o1 hb0
  have HW0 := Lib.hid hW0
  clear hW0 hT
  go_enter Tryd.func73, Tryd.ntmps73
  go_wp2_with fail
  change Code.wp _ _ _ _ ((w.alloc (Obj.cells (vs .u32 H) 88)).alloc (Obj.cells (vs .u8 (List.replicate 32 0)) 64))
  rw [← HW0.out]
  clear HW0
  generalize W0 = wx at *
  generalize hBB : w.heap.size = B at *
  go_loopw [5] (fun i' wr => ∃ k q : Nat, q = 64 * k ∧ q ≤ s.size ∧ k ≤ Bl.ahead s.size ∧ i' = .int .i64 q ∧ DgIs w wr B (Bl.blocks H (tn s) k)) (fun i _ => s.size - (intOf i).toNat)
  case atStart => exact ⟨0, 0, rfl, by omega, by omega, rfl, st⟩
  case round =>
    clear st
    obtain ⟨k, q, hq, hqs, hka, rfl, st⟩ := hrel
    generalize wr = wo at *
    have hHk := blocks_ok (t := tn s) hH k
    by_cases hlt : 64 < s.size - q
    · have d0 : 64 < (s.size : Int) - (q : Int) := by omega
      obtain ⟨p, hp⟩ : ∃ p, p = q + 64 := ⟨_, rfl⟩
      have e1 : IntKind.i64.wrap ((q : Int) + 64) = (p : Int) := by rw [IntWalk.i64_in _ (by omega)]; omega
      have e2 : IntKind.u64.wrap (p : Int) = (p : Int) := IntWalk.u64_in _ (by omega)
      have g0 : (0 : Int) ≤ (q : Int) := by omega
      have g1 : (q : Int) ≤ (p : Int) := by omega
      have g2 : (p : Int) ≤ (s.size : Int) := by omega
      have eN := blocks_next H s k q p hq hp
      have eZ : (s.extract q p).size = 64 := by rw [ByteArray.size_extract]; omega
      have hN := take_ok (M := Bl.words (tn (s.extract q p))) hHk p false
      have hM := words_ok (s.extract q p)
      have ka : k + 1 ≤ Bl.ahead s.size := by unfold Bl.ahead; omega
      have HQ := Lib.hid (And.intro hq hp)
      have hpb : p < 18446744073709551616 := by omega
      clear hq hp
      go_wp2_with fail
      refine wp_region_any (by kernel_rfl) ?_
      change wpAny _ _ _ _ _ _ _ wo.drew
      replace st := st.drew
      refine wpAny_take (i := 1) (oi := { dst := some 17, op := Op.move (Operand.tmp 1), type := _, pos := _, after := _, guard := _ }) (v := ?_) rfl (by kernel_rfl) (by kernel_rfl) (by kernel_rfl) (fun _ _ _ h => h) (Or.inl ⟨by rfl, ?_⟩) ?_
      rotate_left
      · intro wq
        go_simp
        rfl
      try simp only [Act.put, List.setIfInBounds_toArray, List.set_cons_zero, List.set_cons_succ]
      refine wpAny_take (i := 2) (oi := { dst := some 18, op := Op.move (Operand.tmp 5), type := _, pos := _, after := _, guard := _ }) (v := ?_) rfl (by kernel_rfl) (by kernel_rfl) (by kernel_rfl) (fun _ _ _ h => h) (Or.inl ⟨by rfl, ?_⟩) ?_
      rotate_left
      · intro wq
        go_simp
        rfl
      try simp only [Act.put, List.setIfInBounds_toArray, List.set_cons_zero, List.set_cons_succ]
      refine wpAny_take (i := 3) (oi := { dst := some 19, op := Op.move (Operand.tmp 5), type := _, pos := _, after := _, guard := _ }) (v := ?_) rfl (by kernel_rfl) (by kernel_rfl) (by kernel_rfl) (fun _ _ _ h => h) (Or.inl ⟨by rfl, ?_⟩) ?_
      rotate_left
      · intro wq
        go_simp
        rfl
      try simp only [Act.put, List.setIfInBounds_toArray, List.set_cons_zero, List.set_cons_succ]
      refine wpAny_take (i := 4) (oi := { dst := some 20, op := Op.binOp BinOp.add 3 (Operand.tmp 19) (Operand.const (Value.int IntKind.i64 64)) 3, type := _, pos := _, after := _, guard := _ }) (v := ?_) rfl (by kernel_rfl) (by kernel_rfl) (by kernel_rfl) (fun _ _ _ h => h) (Or.inl ⟨by rfl, ?_⟩) ?_
      rotate_left
      · intro wq
        go_simp
        rfl
      try simp only [Act.put, List.setIfInBounds_toArray, List.set_cons_zero, List.set_cons_succ]
      refine wpAny_take (i := 5) (oi := { dst := some 21, op := Op.slice 9 (Operand.tmp 17) (some (Operand.tmp 18)) (some (Operand.tmp 20)) none, type := _, pos := _, after := _, guard := _ }) (v := ?_) rfl (by kernel_rfl) (by kernel_rfl) (by kernel_rfl) (fun _ _ _ h => h) (Or.inl ⟨by rfl, ?_⟩) ?_
      rotate_left
      · intro wq
        go_simp
        rfl
      try simp only [Act.put, List.setIfInBounds_toArray, List.set_cons_zero, List.set_cons_succ]
      refine wpAny_take (i := 7) (oi := { dst := some 23, op := Op.move (Operand.tmp 5), type := _, pos := _, after := _, guard := _ }) (v := ?_) rfl (by kernel_rfl) (by kernel_rfl) (by kernel_rfl) (fun _ _ _ h => h) (Or.inl ⟨by rfl, ?_⟩) ?_
      rotate_left
      · intro wq
        go_simp
        rfl
      try simp only [Act.put, List.setIfInBounds_toArray, List.set_cons_zero, List.set_cons_succ]
      refine wpAny_take (i := 8) (oi := { dst := some 24, op := Op.binOp BinOp.add 3 (Operand.tmp 23) (Operand.const (Value.int IntKind.i64 64)) 3, type := _, pos := _, after := _, guard := _ }) (v := ?_) rfl (by kernel_rfl) (by kernel_rfl) (by kernel_rfl) (fun _ _ _ h => h) (Or.inl ⟨by rfl, ?_⟩) ?_
      rotate_left
      · intro wq
        go_simp
        rfl
      try simp only [Act.put, List.setIfInBounds_toArray, List.set_cons_zero, List.set_cons_succ]
      refine wpAny_take (i := 9) (oi := { dst := some 25, op := Op.convert 3 22 (Operand.tmp 24), type := _, pos := _, after := _, guard := _ }) (v := ?_) rfl (by kernel_rfl) (by kernel_rfl) (by kernel_rfl) (fun _ _ _ h => h) (Or.inl ⟨by rfl, ?_⟩) ?_
      rotate_left
      · intro wq
        go_simp
        rfl
      try simp only [Act.put, List.setIfInBounds_toArray, List.set_cons_zero, List.set_cons_succ]
      refine wpAny_ready (rs := [0, 6]) (by kernel_rfl) (by simp) ?_
      refine AllReady.cons (o := { dst := some 16, op := Op.load 88 (Operand.tmp 2), type := _, pos := _, after := _, guard := _ }) rfl (fun KK hKK => ?_) ?_
      · have hKS := Lib.hid hKK
        clear hKK
        rw [if_pos (by rfl)]
        refine lw t42 _ rfl B rfl st.h hHk.1 ?_
        refine hKS.out _ _ ?_
        clear hKS KK
        try simp only [Act.put, List.setIfInBounds_toArray, List.set_cons_zero, List.set_cons_succ]
        refine wpAny_ready (rs := [6]) (by kernel_rfl) (by simp) ?_
        refine AllReady.cons (o := { dst := some 22, op := Op.call { callee := Callee.value (Operand.func 85), args := #[Operand.tmp 21], argTypes := #[9] }, type := _, pos := _, after := _, guard := _ }) rfl (fun KK hKK => ?_) AllReady.nil
        have hKS := Lib.hid hKK
        clear hKK
        go_simp
        refine (words_any (s.extract q p) eZ _).mono ?_
        rintro e w6 ⟨rfl, hx⟩
        go_wp2_with fail
        replace st := st.below hx
        clear hx
        refine hKS.out _ _ ?_
        clear hKS KK
        try simp only [Act.put, List.setIfInBounds_toArray, List.set_cons_zero, List.set_cons_succ]
        refine wpAny_ready (rs := [10]) (by kernel_rfl) (by simp) ?_
        refine AllReady.cons (o := { dst := some 26, op := Op.call { callee := Callee.value (Operand.func 84), args := #[Operand.tmp 16, Operand.tmp 22, Operand.tmp 25, Operand.const (Value.bool false)], argTypes := #[88, 110, 22, 4] }, type := _, pos := _, after := _, guard := _ }) rfl (fun KK hKK => ?_) AllReady.nil
        have hKS := Lib.hid hKK
        clear hKK
        go_simp
        refine (take_any _ _ p false hHk hM hpb _ st.t).mono ?_
        rintro e w10 ⟨rfl, hx⟩
        go_wp2_with fail
        replace st := st.below hx
        clear hx
        refine hKS.out _ _ ?_
        clear hKS KK
        try simp only [Act.put, List.setIfInBounds_toArray, List.set_cons_zero, List.set_cons_succ]
        refine wpAny_ready (rs := [11]) (by kernel_rfl) (by simp) ?_
        refine AllReady.cons (o := { dst := none, op := Op.store 88 (Operand.tmp 2) (Operand.tmp 26), type := _, pos := _, after := _, guard := _ }) rfl (fun KK hKK => ?_) AllReady.nil
        have hKS := Lib.hid hKK
        clear hKK
        rw [if_pos (by rfl)]
        refine ss t42 _ _ rfl B rfl rfl st.h hHk.1 hN.1 ?_
        replace st := st.row hB (Bl.take (Bl.blocks H (tn s) k) (Bl.words (tn (s.extract q p))) p false)
        refine hKS.out _ _ ?_
        clear hKS KK
        try simp only [Act.put, List.setIfInBounds_toArray, List.set_cons_zero, List.set_cons_succ]
        refine wpAny_done (by kernel_rfl) ?_ _
        go_wp2_with fail
        go_roundw
        case rel => exact ⟨k + 1, p, by have := HQ.out; omega, by omega, ka, rfl, by rw [eN]; exact st⟩
        case measure => simp [intOf]; have := HQ.out; omega
      refine AllReady.cons (o := { dst := some 22, op := Op.call { callee := Callee.value (Operand.func 85), args := #[Operand.tmp 21], argTypes := #[9] }, type := _, pos := _, after := _, guard := _ }) rfl (fun KK hKK => ?_) ?_
      · have hKS := Lib.hid hKK
        clear hKK
        go_simp
        refine (words_any (s.extract q p) eZ _).mono ?_
        rintro e w6 ⟨rfl, hx⟩
        go_wp2_with fail
        replace st := st.below hx
        clear hx
        refine hKS.out _ _ ?_
        clear hKS KK
        try simp only [Act.put, List.setIfInBounds_toArray, List.set_cons_zero, List.set_cons_succ]
        refine wpAny_ready (rs := [0]) (by kernel_rfl) (by simp) ?_
        refine AllReady.cons (o := { dst := some 16, op := Op.load 88 (Operand.tmp 2), type := _, pos := _, after := _, guard := _ }) rfl (fun KK hKK => ?_) AllReady.nil
        have hKS := Lib.hid hKK
        clear hKK
        rw [if_pos (by rfl)]
        refine lw t42 _ rfl B rfl st.h hHk.1 ?_
        refine hKS.out _ _ ?_
        clear hKS KK
        try simp only [Act.put, List.setIfInBounds_toArray, List.set_cons_zero, List.set_cons_succ]
        refine wpAny_ready (rs := [10]) (by kernel_rfl) (by simp) ?_
        refine AllReady.cons (o := { dst := some 26, op := Op.call { callee := Callee.value (Operand.func 84), args := #[Operand.tmp 16, Operand.tmp 22, Operand.tmp 25, Operand.const (Value.bool false)], argTypes := #[88, 110, 22, 4] }, type := _, pos := _, after := _, guard := _ }) rfl (fun KK hKK => ?_) AllReady.nil
        have hKS := Lib.hid hKK
        clear hKK
        go_simp
        refine (take_any _ _ p false hHk hM hpb _ st.t).mono ?_
        rintro e w10 ⟨rfl, hx⟩
        go_wp2_with fail
        replace st := st.below hx
        clear hx
        refine hKS.out _ _ ?_
        clear hKS KK
        try simp only [Act.put, List.setIfInBounds_toArray, List.set_cons_zero, List.set_cons_succ]
        refine wpAny_ready (rs := [11]) (by kernel_rfl) (by simp) ?_
        refine AllReady.cons (o := { dst := none, op := Op.store 88 (Operand.tmp 2) (Operand.tmp 26), type := _, pos := _, after := _, guard := _ }) rfl (fun KK hKK => ?_) AllReady.nil
        have hKS := Lib.hid hKK
        clear hKK
        rw [if_pos (by rfl)]
        refine ss t42 _ _ rfl B rfl rfl st.h hHk.1 hN.1 ?_
        replace st := st.row hB (Bl.take (Bl.blocks H (tn s) k) (Bl.words (tn (s.extract q p))) p false)
        refine hKS.out _ _ ?_
        clear hKS KK
        try simp only [Act.put, List.setIfInBounds_toArray, List.set_cons_zero, List.set_cons_succ]
        refine wpAny_done (by kernel_rfl) ?_ _
        go_wp2_with fail
        go_roundw
        case rel => exact ⟨k + 1, p, by have := HQ.out; omega, by omega, ka, rfl, by rw [eN]; exact st⟩
        case measure => simp [intOf]; have := HQ.out; omega
      exact AllReady.nil
    · have d0 : decide (64 < (s.size : Int) - (q : Int)) = false := by simp; omega
      have ek : k = Bl.ahead s.size := by unfold Bl.ahead at hka ⊢; omega
      have g0 : (0 : Int) ≤ (q : Int) := by omega
      have g1 : (q : Int) ≤ (s.size : Int) := by omega
      have uz : (s.extract q s.size).size ≤ 64 := by rw [ByteArray.size_extract]; omega
      have e2 : IntKind.u64.wrap (s.size : Int) = (s.size : Int) := IntWalk.u64_in _ (by omega)
      obtain ⟨X, hX⟩ : ∃ X, X = tn (s.extract q s.size) ++ (List.replicate 64 0).drop (s.extract q s.size).size := ⟨_, rfl⟩
      have lX : X.length = 64 := by rw [hX, List.length_append, tn_length, List.length_drop, List.length_replicate]; omega
      have bX : Bl.By X := by
        rw [hX]; intro x hx
        rcases List.mem_append.mp hx with h | h
        · exact tn_by _ x h
        · rw [List.eq_of_mem_replicate (List.mem_of_mem_drop h)]; decide
      have eS : Bl.state H (tn s) = Bl.take (Bl.blocks H (tn s) k) (Bl.words X) s.size true := by
        have hu : (s.extract q s.size).size = s.size - q := by rw [ByteArray.size_extract]; omega
        rw [Bl.state, tn_length, ← ek, hX, tn_extract, hu, List.drop_replicate, List.take_of_length_le (by rw [tn_length]; exact Nat.le_refl _), ← hq, show 64 * (k + 1) - s.size = 64 - (s.size - q) from by omega]
      have hwc := fun w => words_any (bs X) (by rw [bs_size, lX]) w
      rw [tn_bs bX] at hwc
      have hM := words_ok (bs X)
      rw [tn_bs bX] at hM
      have hN := take_ok (M := Bl.words X) hHk s.size true
      have hsb : s.size < 18446744073709551616 := by omega
      have HQ := Lib.hid (And.intro hq (And.intro ek (And.intro hX (And.intro eS bX))))
      clear hq ek eS
      obtain ⟨W1, hW1⟩ : ∃ W1, W1 = wo.alloc (Obj.cells (vs .u8 (List.replicate 64 0)) 90) := ⟨_, rfl⟩
      have st1 : DgIs w W1 B (Bl.blocks H (tn s) k) := by rw [hW1]; exact st.below ((Below.refl _ _).alloc (Nat.le_refl _) _)
      have og : Own W1 wo.heap.size 90 (vs .u8 (List.replicate 64 0)) := by rw [hW1]; exact Own.new _ _ _
      have zB : B + 1 < wo.heap.size := st.r.lt
      have HW1 := Lib.hid hW1
      clear hW1 st
      go_wp2_with fail
      change Code.wp _ _ _ _ (wo.alloc (Obj.cells (vs .u8 (List.replicate 64 0)) 90))
      rw [← HW1.out]
      clear HW1
      generalize wo.heap.size = g at *
      refine wp_region_any (by kernel_rfl) ?_
      change wpAny _ _ _ _ _ _ _ W1.drew
      replace st1 := st1.drew
      replace og := og.drew
      refine wpAny_take (i := 0) (oi := { dst := some 27, op := Op.slice 90 (Operand.tmp 6) none none none, type := _, pos := _, after := _, guard := _ }) (v := ?_) rfl (by kernel_rfl) (by kernel_rfl) (by kernel_rfl) (fun _ _ _ h => h) (Or.inl ⟨by rfl, ?_⟩) ?_
      rotate_left
      · intro wq
        go_simp
        rfl
      try simp only [Act.put, List.setIfInBounds_toArray, List.set_cons_zero, List.set_cons_succ]
      refine wpAny_take (i := 1) (oi := { dst := some 28, op := Op.move (Operand.tmp 1), type := _, pos := _, after := _, guard := _ }) (v := ?_) rfl (by kernel_rfl) (by kernel_rfl) (by kernel_rfl) (fun _ _ _ h => h) (Or.inl ⟨by rfl, ?_⟩) ?_
      rotate_left
      · intro wq
        go_simp
        rfl
      try simp only [Act.put, List.setIfInBounds_toArray, List.set_cons_zero, List.set_cons_succ]
      refine wpAny_take (i := 2) (oi := { dst := some 29, op := Op.move (Operand.tmp 5), type := _, pos := _, after := _, guard := _ }) (v := ?_) rfl (by kernel_rfl) (by kernel_rfl) (by kernel_rfl) (fun _ _ _ h => h) (Or.inl ⟨by rfl, ?_⟩) ?_
      rotate_left
      · intro wq
        go_simp
        rfl
      try simp only [Act.put, List.setIfInBounds_toArray, List.set_cons_zero, List.set_cons_succ]
      refine wpAny_take (i := 3) (oi := { dst := some 30, op := Op.slice 9 (Operand.tmp 28) (some (Operand.tmp 29)) none none, type := _, pos := _, after := _, guard := _ }) (v := ?_) rfl (by kernel_rfl) (by kernel_rfl) (by kernel_rfl) (fun _ _ _ h => h) (Or.inl ⟨by rfl, ?_⟩) ?_
      rotate_left
      · intro wq
        go_simp
        rfl
      try simp only [Act.put, List.setIfInBounds_toArray, List.set_cons_zero, List.set_cons_succ]
      refine wpAny_ready (rs := [4]) (by kernel_rfl) (by simp) ?_
      refine AllReady.cons (o := { dst := some 31, op := Op.call { callee := Callee.builtin Builtin.copy, args := #[Operand.tmp 27, Operand.tmp 30], argTypes := #[45, 9] }, type := _, pos := _, after := _, guard := _ }) rfl (fun KK hKK => ?_) AllReady.nil
      have hKS := Lib.hid hKK
      clear hKK
      rw [if_pos (by rfl)]
      refine cp _ _ rfl g 64 rfl (s.extract q s.size) rfl og (by simp) uz ?_
      replace st1 : DgIs w (W1.drew.setRow g (vs .u8 X)) B (Bl.blocks H (tn s) k) := ⟨st1.h.rowOther _ _ (by omega), st1.r.rowOther _ _ (by omega), st1.t.only ((Only.refl g _).row _) (by omega), below_row st1.b (by omega) _⟩
      replace og : Own (W1.drew.setRow g (vs .u8 X)) g 90 (vs .u8 X) := og.row _
      rw [← hX]
      generalize W1.drew.setRow g (vs .u8 X) = W2 at *
      refine hKS.out _ _ ?_
      clear hKS KK
      try simp only [Act.put, List.setIfInBounds_toArray, List.set_cons_zero, List.set_cons_succ]
      refine wpAny_done (by kernel_rfl) ?_ _
      go_wp2_with fail
      refine wp_region_any (by kernel_rfl) ?_
      change wpAny _ _ _ _ _ _ _ W2.drew
      have cv := bs_conv W2.drew g 90 X 64 lX og.drew
      replace st1 := st1.drew
      clear og hX
      refine wpAny_take (i := 1) (oi := { dst := some 33, op := Op.slice 90 (Operand.tmp 6) none none none, type := _, pos := _, after := _, guard := _ }) (v := ?_) rfl (by kernel_rfl) (by kernel_rfl) (by kernel_rfl) (fun _ _ _ h => h) (Or.inl ⟨by rfl, ?_⟩) ?_
      rotate_left
      · intro wq
        go_simp
        rfl
      try simp only [Act.put, List.setIfInBounds_toArray, List.set_cons_zero, List.set_cons_succ]
      refine wpAny_take (i := 4) (oi := { dst := some 36, op := Op.move (Operand.tmp 1), type := _, pos := _, after := _, guard := _ }) (v := ?_) rfl (by kernel_rfl) (by kernel_rfl) (by kernel_rfl) (fun _ _ _ h => h) (Or.inl ⟨by rfl, ?_⟩) ?_
      rotate_left
      · intro wq
        go_simp
        rfl
      try simp only [Act.put, List.setIfInBounds_toArray, List.set_cons_zero, List.set_cons_succ]
      refine wpAny_take (i := 5) (oi := { dst := some 37, op := Op.call { callee := Callee.builtin Builtin.len, args := #[Operand.tmp 36], argTypes := #[9] }, type := _, pos := _, after := _, guard := _ }) (v := ?_) rfl (by kernel_rfl) (by kernel_rfl) (by kernel_rfl) (fun _ _ _ h => h) (Or.inl ⟨by rfl, ?_⟩) ?_
      rotate_left
      · intro wq
        go_simp
        rfl
      try simp only [Act.put, List.setIfInBounds_toArray, List.set_cons_zero, List.set_cons_succ]
      refine wpAny_take (i := 6) (oi := { dst := some 38, op := Op.convert 3 22 (Operand.tmp 37), type := _, pos := _, after := _, guard := _ }) (v := ?_) rfl (by kernel_rfl) (by kernel_rfl) (by kernel_rfl) (fun _ _ _ h => h) (Or.inl ⟨by rfl, ?_⟩) ?_
      rotate_left
      · intro wq
        go_simp
        rfl
      try simp only [Act.put, List.setIfInBounds_toArray, List.set_cons_zero, List.set_cons_succ]
      refine wpAny_ready (rs := [0, 2]) (by kernel_rfl) (by simp) ?_
      refine AllReady.cons (o := { dst := some 32, op := Op.load 88 (Operand.tmp 2), type := _, pos := _, after := _, guard := _ }) rfl (fun KK hKK => ?_) ?_
      · have hKS := Lib.hid hKK
        clear hKK
        rw [if_pos (by rfl)]
        refine lw t42 _ rfl B rfl st1.h hHk.1 ?_
        refine hKS.out _ _ ?_
        clear hKS KK
        try simp only [Act.put, List.setIfInBounds_toArray, List.set_cons_zero, List.set_cons_succ]
        refine wpAny_ready (rs := [2]) (by kernel_rfl) (by simp) ?_
        refine AllReady.cons (o := { dst := some 34, op := Op.convert 45 9 (Operand.tmp 33), type := _, pos := _, after := _, guard := _ }) rfl (fun KK hKK => ?_) AllReady.nil
        have hKS := Lib.hid hKK
        clear hKK
        go_simp
        refine hKS.out _ _ ?_
        clear hKS KK
        try simp only [Act.put, List.setIfInBounds_toArray, List.set_cons_zero, List.set_cons_succ]
        refine wpAny_ready (rs := [3]) (by kernel_rfl) (by simp) ?_
        refine AllReady.cons (o := { dst := some 35, op := Op.call { callee := Callee.value (Operand.func 85), args := #[Operand.tmp 34], argTypes := #[9] }, type := _, pos := _, after := _, guard := _ }) rfl (fun KK hKK => ?_) AllReady.nil
        have hKS := Lib.hid hKK
        clear hKK
        go_simp
        refine (hwc _).mono ?_
        rintro e w3 ⟨rfl, hx⟩
        go_wp2_with fail
        replace st1 := st1.below hx
        clear hx
        refine hKS.out _ _ ?_
        clear hKS KK
        try simp only [Act.put, List.setIfInBounds_toArray, List.set_cons_zero, List.set_cons_succ]
        refine wpAny_ready (rs := [7]) (by kernel_rfl) (by simp) ?_
        refine AllReady.cons (o := { dst := some 39, op := Op.call { callee := Callee.value (Operand.func 84), args := #[Operand.tmp 32, Operand.tmp 35, Operand.tmp 38, Operand.const (Value.bool true)], argTypes := #[88, 110, 22, 4] }, type := _, pos := _, after := _, guard := _ }) rfl (fun KK hKK => ?_) AllReady.nil
        have hKS := Lib.hid hKK
        clear hKK
        go_simp
        refine (take_any _ _ _ true hHk hM hsb _ st1.t).mono ?_
        rintro e w7 ⟨rfl, hx⟩
        go_wp2_with fail
        replace st1 := st1.below hx
        clear hx
        refine hKS.out _ _ ?_
        clear hKS KK
        try simp only [Act.put, List.setIfInBounds_toArray, List.set_cons_zero, List.set_cons_succ]
        refine wpAny_ready (rs := [8]) (by kernel_rfl) (by simp) ?_
        refine AllReady.cons (o := { dst := none, op := Op.store 88 (Operand.tmp 2) (Operand.tmp 39), type := _, pos := _, after := _, guard := _ }) rfl (fun KK hKK => ?_) AllReady.nil
        have hKS := Lib.hid hKK
        clear hKK
        rw [if_pos (by rfl)]
        refine ss t42 _ _ rfl B rfl rfl st1.h hHk.1 hN.1 ?_
        replace st1 := st1.row hB (Bl.take (Bl.blocks H (tn s) k) (Bl.words X) s.size true)
        generalize w7.setRow B (vs .u32 (Bl.take (Bl.blocks H (tn s) k) (Bl.words X) s.size true)) = W3 at *
        refine hKS.out _ _ ?_
        clear hKS KK
        try simp only [Act.put, List.setIfInBounds_toArray, List.set_cons_zero, List.set_cons_succ]
        refine wpAny_done (by kernel_rfl) ?_ _
        rw [← HQ.out.2.2.2.1] at st1
        have hZ := hN
        rw [← HQ.out.2.2.2.1] at hZ
        generalize Bl.state H (tn s) = Z at *
        have HE := Lib.hid HD.out
        obtain ⟨W4, hW4⟩ : ∃ W4, W4 = W3.alloc (Obj.cells (vs .u8 (List.replicate 32 0)) 64) := ⟨_, rfl⟩
        have st2 : DgIs w W4 B Z := by rw [hW4]; exact st1.below ((Below.refl _ _).alloc (Nat.le_refl _) _)
        have oD : Own W4 W3.heap.size 64 (vs .u8 (prn 32 D 0)) := by rw [hW4, prn_zero]; exact Own.new _ _ _
        have zD : B + 1 < W3.heap.size := st1.r.lt
        have HW4 := Lib.hid hW4
        clear hW4 cv st1
        go_wp2_with fail
        change Code.wp _ _ _ _ (W3.alloc (Obj.cells (vs .u8 (List.replicate 32 0)) 64))
        rw [← HW4.out]
        clear HW4
        generalize W3.heap.size = gd at *
        go_loopw [40] (fun i' wr => ∃ k : Nat, k ≤ 32 ∧ i' = .int .i64 k ∧ Own wr gd 64 (vs .u8 (prn 32 D k)) ∧ Only gd W4 wr) (fun i _ => 32 - (intOf i).toNat)
        case atStart => exact ⟨0, by omega, rfl, oD, Only.refl _ _⟩
        case round =>
          clear oD
          obtain ⟨i, hi, rfl, oD, ho⟩ := hrel
          generalize wr = wo at *
          by_cases hil : i < 32
          · have hiI : (i : Int) < 32 := by omega
            have oZ := ho.own st2.h (by omega)
            have cz := oZ.cell (i := i / 4) (by rw [hZ.1]; omega)
            have i4 : (i : Int) / 4 < 8 := by omega
            have cd := oD.cell (i := i) (by rw [prn_length lD hi]; exact hil)
            have zd := oD.frozen i
            have ev : ((Bl.nth Z (i / 4) : Nat) : Int) / 2 ^ (8 * (i % 4)) % 256 = ((Bl.nth D i : Nat) : Int) := by
              rw [HE.out i hil, show (256 : Nat) ^ (i % 4) = 2 ^ (8 * (i % 4)) from by rw [Nat.pow_mul]]
              simp
            have s1 := oD.set i (Bl.nth D i)
            have h1 := ho.set i (.int .u8 (Bl.nth D i : Nat))
            rw [prn_next lD hil] at s1
            have HV := Lib.hid ev
            clear ev oD ho oZ
            go_wp2_with fail
            rw [HV.out]
            go_roundw
            case rel => exact ⟨i + 1, by omega, by go_num, s1, h1⟩
            case measure => simp [intOf]; omega
          · obtain rfl : i = 32 := by omega
            simp only [show ((32 : Nat) : Int) = 32 from rfl]
            rw [prn_all lD] at oD
            have oR := ho.own st2.r (by omega)
            go_wp2_with (first | (refine ld t24 rfl rfl rfl oD lD ?_) | (refine sto t24 rfl rfl rfl rfl oR rfl lD ?_))
            refine ret_arr t24 rfl rfl (oR.row _) lD rfl ⟨rfl, by rw [hBB]; exact below_row (st2.b.trans (ho.below (by omega))) (by omega) _⟩
      refine AllReady.cons (o := { dst := some 34, op := Op.convert 45 9 (Operand.tmp 33), type := _, pos := _, after := _, guard := _ }) rfl (fun KK hKK => ?_) ?_
      · have hKS := Lib.hid hKK
        clear hKK
        go_simp
        refine hKS.out _ _ ?_
        clear hKS KK
        try simp only [Act.put, List.setIfInBounds_toArray, List.set_cons_zero, List.set_cons_succ]
        refine wpAny_ready (rs := [0, 3]) (by kernel_rfl) (by simp) ?_
        refine AllReady.cons (o := { dst := some 32, op := Op.load 88 (Operand.tmp 2), type := _, pos := _, after := _, guard := _ }) rfl (fun KK hKK => ?_) ?_
        · have hKS := Lib.hid hKK
          clear hKK
          rw [if_pos (by rfl)]
          refine lw t42 _ rfl B rfl st1.h hHk.1 ?_
          refine hKS.out _ _ ?_
          clear hKS KK
          try simp only [Act.put, List.setIfInBounds_toArray, List.set_cons_zero, List.set_cons_succ]
          refine wpAny_ready (rs := [3]) (by kernel_rfl) (by simp) ?_
          refine AllReady.cons (o := { dst := some 35, op := Op.call { callee := Callee.value (Operand.func 85), args := #[Operand.tmp 34], argTypes := #[9] }, type := _, pos := _, after := _, guard := _ }) rfl (fun KK hKK => ?_) AllReady.nil
          have hKS := Lib.hid hKK
          clear hKK
          go_simp
          refine (hwc _).mono ?_
          rintro e w3 ⟨rfl, hx⟩
          go_wp2_with fail
          replace st1 := st1.below hx
          clear hx
          refine hKS.out _ _ ?_
          clear hKS KK
          try simp only [Act.put, List.setIfInBounds_toArray, List.set_cons_zero, List.set_cons_succ]
          refine wpAny_ready (rs := [7]) (by kernel_rfl) (by simp) ?_
          refine AllReady.cons (o := { dst := some 39, op := Op.call { callee := Callee.value (Operand.func 84), args := #[Operand.tmp 32, Operand.tmp 35, Operand.tmp 38, Operand.const (Value.bool true)], argTypes := #[88, 110, 22, 4] }, type := _, pos := _, after := _, guard := _ }) rfl (fun KK hKK => ?_) AllReady.nil
          have hKS := Lib.hid hKK
          clear hKK
          go_simp
          refine (take_any _ _ _ true hHk hM hsb _ st1.t).mono ?_
          rintro e w7 ⟨rfl, hx⟩
          go_wp2_with fail
          replace st1 := st1.below hx
          clear hx
          refine hKS.out _ _ ?_
          clear hKS KK
          try simp only [Act.put, List.setIfInBounds_toArray, List.set_cons_zero, List.set_cons_succ]
          refine wpAny_ready (rs := [8]) (by kernel_rfl) (by simp) ?_
          refine AllReady.cons (o := { dst := none, op := Op.store 88 (Operand.tmp 2) (Operand.tmp 39), type := _, pos := _, after := _, guard := _ }) rfl (fun KK hKK => ?_) AllReady.nil
          have hKS := Lib.hid hKK
          clear hKK
          rw [if_pos (by rfl)]
          refine ss t42 _ _ rfl B rfl rfl st1.h hHk.1 hN.1 ?_
          replace st1 := st1.row hB (Bl.take (Bl.blocks H (tn s) k) (Bl.words X) s.size true)
          generalize w7.setRow B (vs .u32 (Bl.take (Bl.blocks H (tn s) k) (Bl.words X) s.size true)) = W3 at *
          refine hKS.out _ _ ?_
          clear hKS KK
          try simp only [Act.put, List.setIfInBounds_toArray, List.set_cons_zero, List.set_cons_succ]
          refine wpAny_done (by kernel_rfl) ?_ _
          rw [← HQ.out.2.2.2.1] at st1
          have hZ := hN
          rw [← HQ.out.2.2.2.1] at hZ
          generalize Bl.state H (tn s) = Z at *
          have HE := Lib.hid HD.out
          obtain ⟨W4, hW4⟩ : ∃ W4, W4 = W3.alloc (Obj.cells (vs .u8 (List.replicate 32 0)) 64) := ⟨_, rfl⟩
          have st2 : DgIs w W4 B Z := by rw [hW4]; exact st1.below ((Below.refl _ _).alloc (Nat.le_refl _) _)
          have oD : Own W4 W3.heap.size 64 (vs .u8 (prn 32 D 0)) := by rw [hW4, prn_zero]; exact Own.new _ _ _
          have zD : B + 1 < W3.heap.size := st1.r.lt
          have HW4 := Lib.hid hW4
          clear hW4 cv st1
          go_wp2_with fail
          change Code.wp _ _ _ _ (W3.alloc (Obj.cells (vs .u8 (List.replicate 32 0)) 64))
          rw [← HW4.out]
          clear HW4
          generalize W3.heap.size = gd at *
          go_loopw [40] (fun i' wr => ∃ k : Nat, k ≤ 32 ∧ i' = .int .i64 k ∧ Own wr gd 64 (vs .u8 (prn 32 D k)) ∧ Only gd W4 wr) (fun i _ => 32 - (intOf i).toNat)
          case atStart => exact ⟨0, by omega, rfl, oD, Only.refl _ _⟩
          case round =>
            clear oD
            obtain ⟨i, hi, rfl, oD, ho⟩ := hrel
            generalize wr = wo at *
            by_cases hil : i < 32
            · have hiI : (i : Int) < 32 := by omega
              have oZ := ho.own st2.h (by omega)
              have cz := oZ.cell (i := i / 4) (by rw [hZ.1]; omega)
              have i4 : (i : Int) / 4 < 8 := by omega
              have cd := oD.cell (i := i) (by rw [prn_length lD hi]; exact hil)
              have zd := oD.frozen i
              have ev : ((Bl.nth Z (i / 4) : Nat) : Int) / 2 ^ (8 * (i % 4)) % 256 = ((Bl.nth D i : Nat) : Int) := by
                rw [HE.out i hil, show (256 : Nat) ^ (i % 4) = 2 ^ (8 * (i % 4)) from by rw [Nat.pow_mul]]
                simp
              have s1 := oD.set i (Bl.nth D i)
              have h1 := ho.set i (.int .u8 (Bl.nth D i : Nat))
              rw [prn_next lD hil] at s1
              have HV := Lib.hid ev
              clear ev oD ho oZ
              go_wp2_with fail
              rw [HV.out]
              go_roundw
              case rel => exact ⟨i + 1, by omega, by go_num, s1, h1⟩
              case measure => simp [intOf]; omega
            · obtain rfl : i = 32 := by omega
              simp only [show ((32 : Nat) : Int) = 32 from rfl]
              rw [prn_all lD] at oD
              have oR := ho.own st2.r (by omega)
              go_wp2_with (first | (refine ld t24 rfl rfl rfl oD lD ?_) | (refine sto t24 rfl rfl rfl rfl oR rfl lD ?_))
              refine ret_arr t24 rfl rfl (oR.row _) lD rfl ⟨rfl, by rw [hBB]; exact below_row (st2.b.trans (ho.below (by omega))) (by omega) _⟩
        refine AllReady.cons (o := { dst := some 35, op := Op.call { callee := Callee.value (Operand.func 85), args := #[Operand.tmp 34], argTypes := #[9] }, type := _, pos := _, after := _, guard := _ }) rfl (fun KK hKK => ?_) ?_
        · have hKS := Lib.hid hKK
          clear hKK
          go_simp
          refine (hwc _).mono ?_
          rintro e w3 ⟨rfl, hx⟩
          go_wp2_with fail
          replace st1 := st1.below hx
          clear hx
          refine hKS.out _ _ ?_
          clear hKS KK
          try simp only [Act.put, List.setIfInBounds_toArray, List.set_cons_zero, List.set_cons_succ]
          refine wpAny_ready (rs := [0]) (by kernel_rfl) (by simp) ?_
          refine AllReady.cons (o := { dst := some 32, op := Op.load 88 (Operand.tmp 2), type := _, pos := _, after := _, guard := _ }) rfl (fun KK hKK => ?_) AllReady.nil
          have hKS := Lib.hid hKK
          clear hKK
          rw [if_pos (by rfl)]
          refine lw t42 _ rfl B rfl st1.h hHk.1 ?_
          refine hKS.out _ _ ?_
          clear hKS KK
          try simp only [Act.put, List.setIfInBounds_toArray, List.set_cons_zero, List.set_cons_succ]
          refine wpAny_ready (rs := [7]) (by kernel_rfl) (by simp) ?_
          refine AllReady.cons (o := { dst := some 39, op := Op.call { callee := Callee.value (Operand.func 84), args := #[Operand.tmp 32, Operand.tmp 35, Operand.tmp 38, Operand.const (Value.bool true)], argTypes := #[88, 110, 22, 4] }, type := _, pos := _, after := _, guard := _ }) rfl (fun KK hKK => ?_) AllReady.nil
          have hKS := Lib.hid hKK
          clear hKK
          go_simp
          refine (take_any _ _ _ true hHk hM hsb _ st1.t).mono ?_
          rintro e w7 ⟨rfl, hx⟩
          go_wp2_with fail
          replace st1 := st1.below hx
          clear hx
          refine hKS.out _ _ ?_
          clear hKS KK
          try simp only [Act.put, List.setIfInBounds_toArray, List.set_cons_zero, List.set_cons_succ]
          refine wpAny_ready (rs := [8]) (by kernel_rfl) (by simp) ?_
          refine AllReady.cons (o := { dst := none, op := Op.store 88 (Operand.tmp 2) (Operand.tmp 39), type := _, pos := _, after := _, guard := _ }) rfl (fun KK hKK => ?_) AllReady.nil
          have hKS := Lib.hid hKK
          clear hKK
          rw [if_pos (by rfl)]
          refine ss t42 _ _ rfl B rfl rfl st1.h hHk.1 hN.1 ?_
          replace st1 := st1.row hB (Bl.take (Bl.blocks H (tn s) k) (Bl.words X) s.size true)
          generalize w7.setRow B (vs .u32 (Bl.take (Bl.blocks H (tn s) k) (Bl.words X) s.size true)) = W3 at *
          refine hKS.out _ _ ?_
          clear hKS KK
          try simp only [Act.put, List.setIfInBounds_toArray, List.set_cons_zero, List.set_cons_succ]
          refine wpAny_done (by kernel_rfl) ?_ _
          rw [← HQ.out.2.2.2.1] at st1
          have hZ := hN
          rw [← HQ.out.2.2.2.1] at hZ
          generalize Bl.state H (tn s) = Z at *
          have HE := Lib.hid HD.out
          obtain ⟨W4, hW4⟩ : ∃ W4, W4 = W3.alloc (Obj.cells (vs .u8 (List.replicate 32 0)) 64) := ⟨_, rfl⟩
          have st2 : DgIs w W4 B Z := by rw [hW4]; exact st1.below ((Below.refl _ _).alloc (Nat.le_refl _) _)
          have oD : Own W4 W3.heap.size 64 (vs .u8 (prn 32 D 0)) := by rw [hW4, prn_zero]; exact Own.new _ _ _
          have zD : B + 1 < W3.heap.size := st1.r.lt
          have HW4 := Lib.hid hW4
          clear hW4 cv st1
          go_wp2_with fail
          change Code.wp _ _ _ _ (W3.alloc (Obj.cells (vs .u8 (List.replicate 32 0)) 64))
          rw [← HW4.out]
          clear HW4
          generalize W3.heap.size = gd at *
          go_loopw [40] (fun i' wr => ∃ k : Nat, k ≤ 32 ∧ i' = .int .i64 k ∧ Own wr gd 64 (vs .u8 (prn 32 D k)) ∧ Only gd W4 wr) (fun i _ => 32 - (intOf i).toNat)
          case atStart => exact ⟨0, by omega, rfl, oD, Only.refl _ _⟩
          case round =>
            clear oD
            obtain ⟨i, hi, rfl, oD, ho⟩ := hrel
            generalize wr = wo at *
            by_cases hil : i < 32
            · have hiI : (i : Int) < 32 := by omega
              have oZ := ho.own st2.h (by omega)
              have cz := oZ.cell (i := i / 4) (by rw [hZ.1]; omega)
              have i4 : (i : Int) / 4 < 8 := by omega
              have cd := oD.cell (i := i) (by rw [prn_length lD hi]; exact hil)
              have zd := oD.frozen i
              have ev : ((Bl.nth Z (i / 4) : Nat) : Int) / 2 ^ (8 * (i % 4)) % 256 = ((Bl.nth D i : Nat) : Int) := by
                rw [HE.out i hil, show (256 : Nat) ^ (i % 4) = 2 ^ (8 * (i % 4)) from by rw [Nat.pow_mul]]
                simp
              have s1 := oD.set i (Bl.nth D i)
              have h1 := ho.set i (.int .u8 (Bl.nth D i : Nat))
              rw [prn_next lD hil] at s1
              have HV := Lib.hid ev
              clear ev oD ho oZ
              go_wp2_with fail
              rw [HV.out]
              go_roundw
              case rel => exact ⟨i + 1, by omega, by go_num, s1, h1⟩
              case measure => simp [intOf]; omega
            · obtain rfl : i = 32 := by omega
              simp only [show ((32 : Nat) : Int) = 32 from rfl]
              rw [prn_all lD] at oD
              have oR := ho.own st2.r (by omega)
              go_wp2_with (first | (refine ld t24 rfl rfl rfl oD lD ?_) | (refine sto t24 rfl rfl rfl rfl oR rfl lD ?_))
              refine ret_arr t24 rfl rfl (oR.row _) lD rfl ⟨rfl, by rw [hBB]; exact below_row (st2.b.trans (ho.below (by omega))) (by omega) _⟩
        exact AllReady.nil
      exact AllReady.nil
end Go.Proofs.YtaoaebdjinlcnaaDoor
