/-
  For every end, all data and every place and change: SessionBent answers true (a message any byte of whose box is another one isn't taken), and the arguments read behind the call as they read before; the package variables are laid by the program's own text.
-/
import Derived.Test.YtaoaebdjinlcnaaDoorRows
import Derived.Test.YtaoaebdjinlcnaaDoorCards
import Derived.Test.YtaoaebdjinlcnaaDoorTie
import Derived.Test.YtaoaebdjinlcnaaDoorVo
import Derived.Test.YtaoaebdjinlcnaaDoorLa
import Derived.WalkKit
import Derived.ProofKit
import Derived.LaidMore
import Derived.OpenShut
import Derived.ShutString
import Derived.Stop.Joined
namespace Go.Proofs.YtaoaebdjinlcnaaDoor.sessionBent
open Go.ChangeShapes Go.WideShapes Go.ChangeAt Go.RowKit
open Go.ChangeMaps (open_string shut_string)
set_option linter.unusedVariables false
set_option linter.unusedSimpArgs false

theorem own : ownKnob Tryd.prog.godebug = none := by kernel_rfl
theorem door_met (os : Os) (args : Array Value) : laidMetH Tryd.prog lay2 ((World.doorLaid Tryd.prog 400 os).forCall (fun _ _ => 0) ⟨#[], args, []⟩).memory :=
  laidMetH_of_parts3 (fuel := 8) (laidMet_of_run' 8 (by kernel_rfl) (by kernel_rfl)) (by kernel_rfl) (by kernel_rfl)
set_option maxRecDepth 100000
theorem okP2 {W : World} {base : Nat} {v : Value} (h : Value.okWide Tryd.prog W .any base 42 v) : ∃ P : Nat × Nat, v = .agg #[.int .u16 (P.1 : Int), .int .u16 (P.2 : Int)] ∧ (P.1 < 65536 ∧ P.2 < 65536) := by
  simp only [Value.okWide, Tryd.underlying42] at h
  obtain ⟨cs, rfl, hsz, ts, hts', _, hcell⟩ := h
  have hts : Tryd.prog.cellTypes Tryd.prog.depth 42 = some [41, 41] := by kernel_rfl
  rw [hts] at hts'
  cases hts'
  rw [show Tryd.prog.cellsOf 42 = 2 by kernel_rfl] at hsz
  obtain ⟨ls⟩ := cs
  obtain ⟨x0, l1, rfl, h1⟩ := cons_len (n := 1) (K := ls) (by simpa using hsz)
  obtain ⟨x1, l2, rfl, h2⟩ := cons_len (n := 0) (K := l1) h1
  obtain rfl : l2 = [] := List.length_eq_zero_iff.1 h2
  obtain ⟨a, rfl, ha⟩ : ∃ m : Nat, x0 = .int .u16 (m : Int) ∧ m < 65536 := by
    obtain ⟨u, hu, hk⟩ := hcell 0 x0 rfl
    cases hu
    exact u16_ok Tryd.underlying41 hk
  obtain ⟨b, rfl, hb⟩ : ∃ m : Nat, x1 = .int .u16 (m : Int) ∧ m < 65536 := by
    obtain ⟨u, hu, hk⟩ := hcell 1 x1 rfl
    cases hu
    exact u16_ok Tryd.underlying41 hk
  exact ⟨(a, b), rfl, ha, hb⟩
/-- what is held: the end, the numbers, the row of texts -/
structure SC (w : World) (c : Ch) (P : Nat × Nat) (g off : Nat) (m n x : ByteArray) (V : World) : Prop where
  k : Cb V w.heap.size c
  p : Own V (w.heap.size + 1) 42 #[.int .u16 (P.1 : Int), .int .u16 (P.2 : Int)]
  c0 : V.cell? ⟨g, off, none⟩ = some (.string m)
  c1 : V.cell? ⟨g, off + 1, none⟩ = some (.string n)
  c2 : V.cell? ⟨g, off + 2, none⟩ = some (.string x)
  b : Below w.heap.size w V
theorem SC.below {w V W : World} {c : Ch} {P : Nat × Nat} {g off : Nat} {m n x : ByteArray} (h : SC w c P g off m n x V) (b : Below V.heap.size V W) : SC w c P g off m n x W :=
  ⟨h.k.below b, Below.own b h.p h.p.lt, cell_below h.c0 b, cell_below h.c1 b, cell_below h.c2 b, h.b.trans (b.mono h.b.size)⟩
theorem SC.drew {w V : World} {c : Ch} {P : Nat × Nat} {g off : Nat} {m n x : ByteArray} (h : SC w c P g off m n x V) : SC w c P g off m n x V.drew := ⟨h.k.drew, h.p.drew, h.c0, h.c1, h.c2, h.b.drew⟩
theorem SC.set {w V : World} {c : Ch} {P : Nat × Nat} {g off gB : Nat} {m n x : ByteArray} (h : SC w c P g off m n x V) (hB : w.heap.size + 2 ≤ gB) (hg : g ≠ gB) (i : Nat) (v : Value) : SC w c P g off m n x (V.setCell ⟨gB, i, none⟩ v) :=
  ⟨h.k.other _ _ (by show w.heap.size ≠ gB; omega), h.p.other _ _ (by show w.heap.size + 1 ≠ gB; omega), (World.cell?_of_block (Below.heap_setCell _ _ _ _ hg)).trans h.c0, (World.cell?_of_block (Below.heap_setCell _ _ _ _ hg)).trans h.c1, (World.cell?_of_block (Below.heap_setCell _ _ _ _ hg)).trans h.c2, h.b.setCell (p := ⟨gB, i, none⟩) (by show w.heap.size ≤ gB; omega) _⟩
theorem Bt.rowOther {V : World} {g p : Nat} {L : List Nat} (h : Bt V g L) (hp : g ≠ p) (cs : Array Value) : Bt (V.setRow p cs) g L := by
  obtain ⟨a, lo, hi, h1, h2⟩ := h
  exact ⟨a, lo, hi, (heap_setRow _ _ _ _ hp).trans h1, h2⟩
theorem Bt.drew' {V : World} {g : Nat} {L : List Nat} (h : Bt V g L) : Bt V.drew g L := h
set_option maxHeartbeats 8000000 in
theorem walk (c : Ch) (d : ByteArray) (P : Nat × Nat) (hc : c.Ok) (wf : d.size ≤ maxLen) (hP : P.1 < 65536 ∧ P.2 < 65536) (w : World) (hT : Tab w) :
    Calls Tryd.prog 7 #[.agg (chv c), .string d, .agg #[.int .u16 (P.1 : Int), .int .u16 (P.2 : Int)]] w fun e w' => e = .returned (.bool true) ∧ Below w.heap.size w w' := by
  have hfx := fun wr (h : Below w.heap.size w wr) => fixed_any wr (hT.below h)
  have k0 := (Cb.new w c hc.k).alloc (Obj.cells #[.int .u16 (P.1 : Int), .int .u16 (P.2 : Int)] 42)
  have p0 : Own ((w.alloc (Obj.cells (chv c) 26)).alloc (Obj.cells #[.int .u16 (P.1 : Int), .int .u16 (P.2 : Int)] 42)) (w.heap.size + 1) 42 #[.int .u16 (P.1 : Int), .int .u16 (P.2 : Int)] := Own.new' _ _ _ (by simp)
  have b0 : Below w.heap.size w ((w.alloc (Obj.cells (chv c) 26)).alloc (Obj.cells #[.int .u16 (P.1 : Int), .int .u16 (P.2 : Int)] 42)) := (grow w _).alloc (by simp) _
  go_enter Tryd.func7, Tryd.ntmps7
  go_upto_region 1 with fail
  generalize (w.alloc (Obj.cells (chv c) 26)).alloc (Obj.cells #[.int .u16 (P.1 : Int), .int .u16 (P.2 : Int)] 42) = W0 at *
  have c0 := k0.c0
  have c1 := k0.c1
  by_cases hbig : 100 < c.m.size ∨ 100 < d.size ∨ 1152921504606846976 < c.n
  · have dd : 100 < (c.m.size : Int) ∨ (¬ 100 < (c.m.size : Int) ∧ 100 < (d.size : Int)) ∨ (¬ 100 < (c.m.size : Int) ∧ ¬ 100 < (d.size : Int) ∧ 1152921504606846976 < (c.n : Int)) := by omega
    rcases dd with d0 | ⟨d0, d1⟩ | ⟨d0, d1, d3⟩ <;>
    · go_wp2_with fail
      refine (hfx _ b0).mono ?_
      rintro e w1 ⟨rfl, hx⟩
      replace b0 := b0.trans (hx.mono b0.size)
      go_wp2_with fail
      go_ret
      exact ⟨rfl, b0⟩
  have d0 : ¬ 100 < (c.m.size : Int) := by omega
  have d1 : ¬ 100 < (d.size : Int) := by omega
  have d3 : ¬ 1152921504606846976 < (c.n : Int) := by omega
  have hc1 := (ahead_ok hc 1 (by omega)).k
  have hs := fun wr (h : Below w.heap.size w wr) => send_any c d wr hc (hT.below h) (by omega) (by omega)
  rw [show sendR c d = (ahead c 1, frameD c d, 0) from send_ok c d (by omega) (by omega)] at hs
  have zf := frame_size c d (by omega) (by omega)
  have zb := boxS_size c.K c.m c.n d
  have htx := fun wr => Un.Nm.rtexts_any (frameD c d) wr (by omega)
  have hte : Nu.texts (Un.Nm.toL (frameD c d)) = ([c.m, num8 c.n, boxS c.K c.m c.n d].map Un.Nm.toL, 0) := by
    unfold frameD
    rw [toL_rowL]
    refine Nu.texts_row fun s hs => ?_
    simp at hs
    rcases hs with rfl | rfl | rfl <;> rw [Un.Nm.toL_length]
    · omega
    · rw [num8_size]; omega
    · omega
  generalize ahead c 1 = C1 at *
  go_wp2_with (first | refine ld26 rfl rfl rfl k0 ?_ | refine ldk rfl rfl rfl k0 ?_)
  refine (hs _ b0).mono ?_
  rintro e V1 ⟨rfl, hx⟩
  replace k0 := k0.below hx
  replace p0 := Below.own hx p0 p0.lt
  replace c0 := cell_below c0 hx
  replace c1 := cell_below c1 hx
  replace b0 := b0.trans (hx.mono b0.size)
  clear hx
  try dsimp only [rsv, bad]
  have hx := grow V1 (Obj.cells (chv C1) 26)
  have x1 := Cb.new V1 C1 hc1
  replace k0 := k0.below hx
  replace p0 := Below.own hx p0 p0.lt
  replace c0 := cell_below c0 hx
  replace c1 := cell_below c1 hx
  replace b0 := b0.trans (hx.mono b0.size)
  clear hx
  go_wp2_with (first | refine sto26n (d := C1) hc1 rfl rfl rfl rfl rfl ?_ | refine ld26 rfl rfl rfl k0 ?_ | refine ldk rfl rfl rfl k0 ?_ | refine ld26 rfl rfl rfl x1 ?_ | refine ldk rfl rfl rfl x1 ?_)
  generalize V1.alloc (Obj.cells (chv C1) 26) = V2 at *
  clear x1 c0 c1
  refine (htx _).mono ?_
  rintro e V3 ⟨A, cp, l, rfl, hts, hl, hx⟩
  rw [hte] at hl
  obtain rfl : l = [c.m, num8 c.n, boxS c.K c.m c.n d] := by
    have := congrArg (List.map mkB) hl
    rwa [map_mkB, map_mkB] at this
  rw [hte]
  obtain ⟨g, off, rfl, hcell⟩ := hts.2 (by simp)
  have t0 : V3.cell? ⟨g, off, none⟩ = some (.string c.m) := hcell 0 (by simp)
  have t1 : V3.cell? ⟨g, off + 1, none⟩ = some (.string (num8 c.n)) := hcell 1 (by simp)
  have t2 : V3.cell? ⟨g, off + 2, none⟩ = some (.string (boxS c.K c.m c.n d)) := hcell 2 (by simp)
  have kk := k0.below hx
  have pp := Below.own hx p0 p0.lt
  have bb := b0.trans (hx.mono b0.size)
  clear hts hcell hl hx k0 p0 b0 htx hte
  have hgl : g < V3.heap.size := World.block_lt_of_cell? _ _ t0
  have hge : w.heap.size + 2 ≤ V3.heap.size := pp.lt
  have bt := bw_bt V3 (boxS c.K c.m c.n d)
  have hbw := bw_below V3 (boxS c.K c.m c.n d)
  have st : SC w c P g off c.m (num8 c.n) (boxS c.K c.m c.n d) (Lib.bytesWorld V3 5 (boxS c.K c.m c.n d)) :=
    ⟨kk.below hbw, Below.own hbw pp pp.lt, cell_below t0 hbw, cell_below t1 hbw, cell_below t2 hbw, bb.trans (hbw.mono bb.size)⟩
  have kc := fun w => Lib.run_convert_string_bytes (P := Tryd.prog) w 9 45 5 (boxS c.K c.m c.n d) Tryd.underlying9 Tryd.underlying45 Tryd.underlying5
  have hcap := grownCap_ge V3 (boxS c.K c.m c.n d).size 0 5
  dsimp only [List.length_cons, List.length_nil]
  have hbt := fun X idx y h1 h2 h3 h4 h5 h6 => bent_take (c := c) (d := d) (X := X) (idx := idx) (y := y) (by omega) (by omega) (by omega) h1 h2 h3 h4 h5 h6
  have HBT := Lib.hid hbt
  have hby := tn_by (boxS c.K c.m c.n d)
  have lbx := tn_length (boxS c.K c.m c.n d)
  clear hbt hbw
  have HZ := Lib.hid zb
  have zl : ¬ (boxS c.K c.m c.n d).size < 44 := by omega
  have zu : (boxS c.K c.m c.n d).size ≤ 144 := by omega
  clear zb
  generalize boxS c.K c.m c.n d = box at *
  have zl' : ¬ (box.size : Int) < 44 := by omega
  go_upto_region 8 with fail
  generalize Lib.bytesWorld V3 5 box = WB at *
  generalize grownCap V3 box.size 0 5 = cap at *
  generalize V3.heap.size = gB at *
  clear kk pp t0 t1 t2 bb kc
  obtain ⟨idx, hidx⟩ : ∃ idx, P.1 % box.size = idx := ⟨_, rfl⟩
  have lidx : idx < box.size := by rw [← hidx]; exact Nat.mod_lt _ (by omega)
  have en : (P.1 : Int) % (box.size : Int) = (idx : Int) := by rw [← hidx]; omega
  obtain ⟨q, hq⟩ : ∃ q, P.2 % 255 = q := ⟨_, rfl⟩
  have eq' : (P.2 : Int) % 255 = (q : Int) := by rw [← hq]; omega
  have lq : q < 255 := by omega
  have en2 : (P.1 : Int).tmod (box.size : Int) = (idx : Int) := by rw [← hidx]; rfl
  have eq2 : (P.2 : Int).tmod 255 = (q : Int) := by rw [← hq]; rfl
  have hemp : ¬ box = ByteArray.empty := fun e => by rw [e] at zl; exact zl (by decide)
  have e0 : ((box.size : Int) == 0) = false := by rw [beq_eq_false_iff_ne]; omega
  have e1 : IntKind.i64.wrap (P.1 : Int) = (P.1 : Int) := IntWalk.i64_in _ (by omega)
  have e2 : IntKind.u8.wrap (q : Int) = (q : Int) := by simp [IntKind.wrap, IntKind.signed, IntKind.bits]; omega
  have e3 : IntKind.u8.wrap (1 + (q : Int)) = ((1 + q : Nat) : Int) := by simp [IntKind.wrap, IntKind.signed, IntKind.bits]; omega
  have q1 : bits .xor .u8 ((Bl.nth (tn box) idx : Nat) : Int) (1 + (q : Int)) = ((Bl.nth (tn box) idx ^^^ (1 + q) : Nat) : Int) := by rw [show (1 + (q : Int)) = ((1 + q : Nat) : Int) by omega]; exact u8_xor_nat (Bl.nth (tn box) idx) (1 + q) (hby.nth idx) (by omega)
  have lidx' : (idx : Int) < (box.size : Int) := by omega
  have i0 : (idx : Int).toNat = idx := rfl
  have hgB : g ≠ gB := by omega
  clear hidx hq
  go_cut [] from 69 to 84 (fun wc => SC w c P g off c.m (num8 c.n) box wc ∧ Bt wc gB ((tn box).set idx (Bl.nth (tn box) idx ^^^ (1 + q))))
  case first =>
    refine wp_region_held_drew (S := fun V => SC w c P g off c.m (num8 c.n) box V) (by kernel_rfl) st.drew (fun hHeld => ?_)
    replace bt : Bt WB.drew gB (tn box) := bt
    clear st
    generalize WB.drew = Y0 at *
    refine wpAnyH_take (i := 0) (oi := { dst := some 69, op := Op.move (Operand.tmp 12), type := _, pos := _, after := _, guard := _ }) (v := ?_) rfl (by kernel_rfl) (by kernel_rfl) (by kernel_rfl) (fun _ _ _ h => h) (Or.inl ⟨by rfl, ?_⟩) hHeld ?_
    rotate_left
    · intro wq hSw
      go_simp
      rfl
    try simp only [Act.put, List.setIfInBounds_toArray, List.set_cons_zero, List.set_cons_succ]
    refine wpAnyH_take (i := 1) (oi := { dst := some 70, op := Op.indexAddr 42 (Operand.tmp 5) (Operand.const (Value.int IntKind.i64 0)), type := _, pos := _, after := _, guard := _ }) (v := ?_) rfl (by kernel_rfl) (by kernel_rfl) (by kernel_rfl) (fun _ _ _ h => h) (Or.inl ⟨by rfl, ?_⟩) hHeld ?_
    rotate_left
    · intro wq hSw
      go_simp
      rfl
    try simp only [Act.put, List.setIfInBounds_toArray, List.set_cons_zero, List.set_cons_succ]
    refine wpAnyH_take (i := 2) (oi := { dst := some 71, op := Op.load 41 (Operand.tmp 70), type := _, pos := _, after := _, guard := _ }) (v := ?_) rfl (by kernel_rfl) (by kernel_rfl) (by kernel_rfl) (fun _ _ _ h => h) (Or.inl ⟨by rfl, ?_⟩) hHeld ?_
    rotate_left
    · intro wq hSw
      have pa : wq.cell? ⟨w.heap.size + 1, 0, none⟩ = some (Value.int .u16 (P.1 : Int)) := hSw.p.cellv 0
      go_simp
      rfl
    try simp only [Act.put, List.setIfInBounds_toArray, List.set_cons_zero, List.set_cons_succ]
    refine wpAnyH_take (i := 3) (oi := { dst := some 72, op := Op.convert 41 3 (Operand.tmp 71), type := _, pos := _, after := _, guard := _ }) (v := ?_) rfl (by kernel_rfl) (by kernel_rfl) (by kernel_rfl) (fun _ _ _ h => h) (Or.inl ⟨by rfl, ?_⟩) hHeld ?_
    rotate_left
    · intro wq hSw
      go_simp
      rfl
    try simp only [Act.put, List.setIfInBounds_toArray, List.set_cons_zero, List.set_cons_succ]
    refine wpAnyH_take (i := 4) (oi := { dst := some 73, op := Op.move (Operand.tmp 12), type := _, pos := _, after := _, guard := _ }) (v := ?_) rfl (by kernel_rfl) (by kernel_rfl) (by kernel_rfl) (fun _ _ _ h => h) (Or.inl ⟨by rfl, ?_⟩) hHeld ?_
    rotate_left
    · intro wq hSw
      go_simp
      rfl
    try simp only [Act.put, List.setIfInBounds_toArray, List.set_cons_zero, List.set_cons_succ]
    refine wpAnyH_take (i := 5) (oi := { dst := some 74, op := Op.call { callee := Callee.builtin Builtin.len, args := #[Operand.tmp 73], argTypes := #[45] }, type := _, pos := _, after := _, guard := _ }) (v := ?_) rfl (by kernel_rfl) (by kernel_rfl) (by kernel_rfl) (fun _ _ _ h => h) (Or.inl ⟨by rfl, ?_⟩) hHeld ?_
    rotate_left
    · intro wq hSw
      go_simp
      rfl
    try simp only [Act.put, List.setIfInBounds_toArray, List.set_cons_zero, List.set_cons_succ]
    refine wpAnyH_take (i := 6) (oi := { dst := some 75, op := Op.binOp BinOp.rem 3 (Operand.tmp 72) (Operand.tmp 74) 3, type := _, pos := _, after := _, guard := _ }) (v := ?_) rfl (by kernel_rfl) (by kernel_rfl) (by kernel_rfl) (fun _ _ _ h => h) (Or.inl ⟨by rfl, ?_⟩) hHeld ?_
    rotate_left
    · intro wq hSw
      go_simp
      rfl
    try simp only [Act.put, List.setIfInBounds_toArray, List.set_cons_zero, List.set_cons_succ]
    refine wpAnyH_take (i := 7) (oi := { dst := some 76, op := Op.indexAddr 45 (Operand.tmp 69) (Operand.tmp 75), type := _, pos := _, after := _, guard := _ }) (v := ?_) rfl (by kernel_rfl) (by kernel_rfl) (by kernel_rfl) (fun _ _ _ h => h) (Or.inl ⟨by rfl, ?_⟩) hHeld ?_
    rotate_left
    · intro wq hSw
      go_simp
      rfl
    try simp only [Act.put, List.setIfInBounds_toArray, List.set_cons_zero, List.set_cons_succ]
    refine wpAnyH_take (i := 9) (oi := { dst := some 78, op := Op.indexAddr 42 (Operand.tmp 5) (Operand.const (Value.int IntKind.i64 1)), type := _, pos := _, after := _, guard := _ }) (v := ?_) rfl (by kernel_rfl) (by kernel_rfl) (by kernel_rfl) (fun _ _ _ h => h) (Or.inl ⟨by rfl, ?_⟩) hHeld ?_
    rotate_left
    · intro wq hSw
      go_simp
      rfl
    try simp only [Act.put, List.setIfInBounds_toArray, List.set_cons_zero, List.set_cons_succ]
    refine wpAnyH_take (i := 10) (oi := { dst := some 79, op := Op.load 41 (Operand.tmp 78), type := _, pos := _, after := _, guard := _ }) (v := ?_) rfl (by kernel_rfl) (by kernel_rfl) (by kernel_rfl) (fun _ _ _ h => h) (Or.inl ⟨by rfl, ?_⟩) hHeld ?_
    rotate_left
    · intro wq hSw
      have pb : wq.cell? ⟨w.heap.size + 1, 1, none⟩ = some (Value.int .u16 (P.2 : Int)) := hSw.p.cellv 1
      go_simp
      rfl
    try simp only [Act.put, List.setIfInBounds_toArray, List.set_cons_zero, List.set_cons_succ]
    refine wpAnyH_take (i := 11) (oi := { dst := some 80, op := Op.binOp BinOp.rem 41 (Operand.tmp 79) (Operand.const (Value.int IntKind.u16 255)) 41, type := _, pos := _, after := _, guard := _ }) (v := ?_) rfl (by kernel_rfl) (by kernel_rfl) (by kernel_rfl) (fun _ _ _ h => h) (Or.inl ⟨by rfl, ?_⟩) hHeld ?_
    rotate_left
    · intro wq hSw
      go_simp
      rfl
    try simp only [Act.put, List.setIfInBounds_toArray, List.set_cons_zero, List.set_cons_succ]
    refine wpAnyH_take (i := 12) (oi := { dst := some 81, op := Op.convert 41 5 (Operand.tmp 80), type := _, pos := _, after := _, guard := _ }) (v := ?_) rfl (by kernel_rfl) (by kernel_rfl) (by kernel_rfl) (fun _ _ _ h => h) (Or.inl ⟨by rfl, ?_⟩) hHeld ?_
    rotate_left
    · intro wq hSw
      go_simp
      rfl
    try simp only [Act.put, List.setIfInBounds_toArray, List.set_cons_zero, List.set_cons_succ]
    refine wpAnyH_take (i := 13) (oi := { dst := some 82, op := Op.binOp BinOp.add 5 (Operand.const (Value.int IntKind.u8 1)) (Operand.tmp 81) 5, type := _, pos := _, after := _, guard := _ }) (v := ?_) rfl (by kernel_rfl) (by kernel_rfl) (by kernel_rfl) (fun _ _ _ h => h) (Or.inl ⟨by rfl, ?_⟩) hHeld ?_
    rotate_left
    · intro wq hSw
      go_simp
      rfl
    try simp only [Act.put, List.setIfInBounds_toArray, List.set_cons_zero, List.set_cons_succ]
    refine wpAnyH_ready (rs := [8]) (by kernel_rfl) (by simp) ?_
    refine AllReadyH.cons (o := { dst := some 77, op := Op.load 5 (Operand.tmp 76), type := _, pos := _, after := _, guard := _ }) rfl (fun KK hKK => ?_) AllReadyH.nil
    have hKS := Lib.hid hKK
    clear hKK
    have cz := bt.cell (j := idx) (by omega)
    go_simp
    refine hKS.out.out _ _ hHeld (fun hHeld => ?_)
    clear hKS KK cz
    try simp only [Act.put, List.setIfInBounds_toArray, List.set_cons_zero, List.set_cons_succ]
    refine wpAnyH_take (i := 14) (oi := { dst := some 83, op := Op.binOp BinOp.xor 5 (Operand.tmp 77) (Operand.tmp 82) 5, type := _, pos := _, after := _, guard := _ }) (v := ?_) rfl (by kernel_rfl) (by kernel_rfl) (by kernel_rfl) (fun _ _ _ h => h) (Or.inl ⟨by rfl, ?_⟩) hHeld ?_
    rotate_left
    · intro wq hSw
      go_simp
      rfl
    try simp only [Act.put, List.setIfInBounds_toArray, List.set_cons_zero, List.set_cons_succ]
    refine wpAnyH_take (i := 15) (oi := { dst := some 84, op := Op.indexAddr 45 (Operand.tmp 69) (Operand.tmp 75), type := _, pos := _, after := _, guard := _ }) (v := ?_) rfl (by kernel_rfl) (by kernel_rfl) (by kernel_rfl) (fun _ _ _ h => h) (Or.inl ⟨by rfl, ?_⟩) hHeld ?_
    rotate_left
    · intro wq hSw
      go_simp
      rfl
    try simp only [Act.put, List.setIfInBounds_toArray, List.set_cons_zero, List.set_cons_succ]
    refine wpAnyH_ready (rs := [16]) (by kernel_rfl) (by simp) ?_
    refine AllReadyH.cons (o := { dst := none, op := Op.store 5 (Operand.tmp 84) (Operand.tmp 83), type := _, pos := _, after := _, guard := _ }) rfl (fun KK hKK => ?_) AllReadyH.nil
    have hKS := Lib.hid hKK
    clear hKK
    have cz := bt.cell (j := idx) (by omega)
    have cf := bt.frozen (j := idx) (by omega)
    go_simp
    have bt2 := bt.set idx (Bl.nth (tn box) idx ^^^ (1 + q))
    refine hKS.out.out _ _ (hHeld.set (by omega) hgB _ _) (fun hHeld => ?_)
    clear hKS KK cz cf bt
    try simp only [Act.put, List.setIfInBounds_toArray, List.set_cons_zero, List.set_cons_succ]
    refine wpAnyH_done (by kernel_rfl) ?_ _
    go_wp2_with fail
    go_meet
    case rel => exact ⟨hHeld, bt2⟩
  case rest =>
    clear st bt
    obtain ⟨st, bt⟩ := hcut
    obtain ⟨L, hL⟩ : ∃ L, (tn box).set idx (Bl.nth (tn box) idx ^^^ (1 + q)) = L := ⟨_, rfl⟩
    have lL : L.length = box.size := by rw [← hL, List.length_set, lbx]
    obtain ⟨y, hy⟩ : ∃ y, Bl.nth (tn box) idx ^^^ (1 + q) = y := ⟨_, rfl⟩
    have hy256 : y < 256 := by rw [← hy]; exact Nat.xor_lt_two_pow (n := 8) (hby.nth idx) (by omega)
    have hyne : y ≠ Bl.nth (tn box) idx := fun e => by
      rw [← hy] at e
      have e2 : Bl.nth (tn box) idx ^^^ (Bl.nth (tn box) idx ^^^ (1 + q)) = Bl.nth (tn box) idx ^^^ Bl.nth (tn box) idx := by rw [e]
      rw [← Nat.xor_assoc, Nat.xor_self, Nat.zero_xor] at e2
      omega
    rw [hy] at hL bt
    rw [hL] at bt
    have hbyL : Bl.By L := fun x hx => by
      rw [← hL] at hx
      rcases List.mem_or_eq_of_mem_set hx with h | rfl
      · exact hby x h
      · exact hy256
    obtain ⟨X, hX⟩ : ∃ X, X = bs L := ⟨_, rfl⟩
    have zX : X.size = box.size := by rw [hX, bs_size, lL]
    have hXc : bs (L.take (box.size - 32)) = X.extract 0 (box.size - 32) := tn_inj (by
      rw [tn_extract, List.drop_zero, hX, tn_bs hbyL, tn_bs (fun x hx => hbyL x (List.mem_of_mem_take hx))])
    have hXf : bs (L.take box.size) = X := by rw [List.take_of_length_le (by omega), hX]
    have hbt := HBT.out X idx y (by have := HZ.out; omega) hy256 hyne (by rw [hL]; exact hX) zX
    have HH := Lib.hid (And.intro hy hX)
    clear hy hX q1 hL e0 e1 e2 e3 en eq' en2 eq2 hemp HBT hyne hbyL
    generalize hHd : headD c.m c.n = Hd at *
    have zHd : Hd.size ≤ 118 := by rw [← hHd]; have := headD_size c.m c.n (by omega); omega
    have hh23 : ∀ wr, Calls Tryd.prog 23 #[.string c.m, .int .u64 (c.n : Int)] wr fun e w' => e = .returned (.string Hd) ∧ Below wr.heap.size wr w' := fun wr => by
      rw [← hHd]; exact rhead_any c.m c.n wr hc.n (by omega)
    have hoS := fun wr => of43_any c.K ⟨#[115, 101, 110, 100]⟩ wr hc.b hc.k (by decide)
    rw [tn_send] at hoS
    have hoT := fun wr => of43_any (Bl.keyed c.K wS) ⟨#[116, 97, 103]⟩ wr (keyed_by _ _) (keyed_len _ _) (by decide)
    rw [tn_T] at hoT
    clear hHd
    have lT : (Bl.keyed (Bl.keyed c.K wS) wT).length = 32 := keyed_len _ _
    have bT : Bl.By (Bl.keyed (Bl.keyed c.K wS) wT) := keyed_by _ _
    generalize Bl.keyed (Bl.keyed c.K wS) wT = T at *
    have c0 := st.k.c0
    have c1 := st.k.c1
    go_wp2_with fail
    refine (hh23 _).mono ?_
    rintro e v1 ⟨rfl, hx⟩
    replace st := st.below hx
    replace bt := Bt.below bt hx
    clear hx hh23 c0 c1
    go_wp2_with (first | refine ldk rfl rfl rfl st.k ?_)
    refine (hoS _).mono ?_
    rintro e v2 ⟨rfl, hx⟩
    replace st := st.below hx
    replace bt := Bt.below bt hx
    clear hx hoS
    go_wp2_with fail
    refine (hoT _).mono ?_
    rintro e v3 ⟨rfl, hx⟩
    replace st := st.below hx
    replace bt := Bt.below bt hx
    clear hx hoT
    have hx := grow v3 (Obj.cells (vs .u8 T) 24)
    have oT : Own (v3.alloc (Obj.cells (vs .u8 T) 24)) v3.heap.size 24 (vs .u8 T) := Own.new _ _ _
    replace st := st.below hx
    replace bt := Bt.below bt hx
    clear hx
    go_wp2_with (first | refine sto_new t28 rfl rfl rfl rfl rfl (by simp) lT ?_)
    try simp only [Act.put, List.setIfInBounds_toArray, List.set_cons_zero, List.set_cons_succ]
    generalize v3.alloc (Obj.cells (vs .u8 T) 24) = W5 at *
    generalize v3.heap.size = gt at *
    have e4 : IntKind.i64.wrap ((box.size : Int) - 32) = ((box.size - 32 : Nat) : Int) := by rw [IntWalk.i64_in _ (by omega)]; omega
    have l4 : ((box.size - 32 : Nat) : Int) ≤ (box.size : Int) := by omega
    have zc1 : (box.extract 0 (box.size - 32)).size ≤ 144 := by simp; omega
    have zc2 : (X.extract 0 (box.size - 32)).size ≤ 144 := by simp; omega
    have l5 : ((box.size - 32 : Nat) : Int) ≤ (cap : Int) := by omega
    have n4 : ((box.size - 32 : Nat) : Int).toNat = box.size - 32 := rfl
    have hcv := fun V (h : Bt V gB L) c => h.conv (box.size - 32) c (by omega)
    rw [hXc] at hcv
    have hcf := fun V (h : Bt V gB L) c => h.conv box.size c (by omega)
    rw [hXf] at hcf
    generalize hE1 : box.extract 0 (box.size - 32) = E1 at *
    generalize hE2 : X.extract 0 (box.size - 32) = E2 at *
    have HCF := Lib.hid hcf
    clear hcf
    go_cut [15, 16] from 94 to 114 (fun s15 s16 wc => s15 = .string (rowN Hd E1) ∧ s16 = .string (rowN Hd E2) ∧ SC w c P g off c.m (num8 c.n) box wc ∧ Bt wc gB L ∧ Own wc gt 24 (vs .u8 T))
    case first =>
      refine wp_region_held_drew (S := fun V => SC w c P g off c.m (num8 c.n) box V ∧ Bt V gB L ∧ Own V gt 24 (vs .u8 T)) (by kernel_rfl) ⟨st.drew, bt, oT.drew⟩ (fun hHeld => ?_)
      clear st bt oT
      generalize W5.drew = Y1 at *
      refine wpAnyH_take (i := 0) (oi := { dst := some 94, op := Op.move (Operand.tmp 13), type := _, pos := _, after := _, guard := _ }) (v := ?_) rfl (by kernel_rfl) (by kernel_rfl) (by kernel_rfl) (fun _ _ _ h => h) (Or.inl ⟨by rfl, ?_⟩) hHeld ?_
      rotate_left
      · intro wq hSw
        go_simp
        rfl
      try simp only [Act.put, List.setIfInBounds_toArray, List.set_cons_zero, List.set_cons_succ]
      refine wpAnyH_take (i := 1) (oi := { dst := some 95, op := Op.move (Operand.tmp 10), type := _, pos := _, after := _, guard := _ }) (v := ?_) rfl (by kernel_rfl) (by kernel_rfl) (by kernel_rfl) (fun _ _ _ h => h) (Or.inl ⟨by rfl, ?_⟩) hHeld ?_
      rotate_left
      · intro wq hSw
        go_simp
        rfl
      try simp only [Act.put, List.setIfInBounds_toArray, List.set_cons_zero, List.set_cons_succ]
      refine wpAnyH_take (i := 2) (oi := { dst := some 96, op := Op.indexAddr 36 (Operand.tmp 95) (Operand.const (Value.int IntKind.i64 2)), type := _, pos := _, after := _, guard := _ }) (v := ?_) rfl (by kernel_rfl) (by kernel_rfl) (by kernel_rfl) (fun _ _ _ h => h) (Or.inl ⟨by rfl, ?_⟩) hHeld ?_
      rotate_left
      · intro wq hSw
        go_simp
        rfl
      try simp only [Act.put, List.setIfInBounds_toArray, List.set_cons_zero, List.set_cons_succ]
      refine wpAnyH_take (i := 3) (oi := { dst := some 97, op := Op.load 9 (Operand.tmp 96), type := _, pos := _, after := _, guard := _ }) (v := ?_) rfl (by kernel_rfl) (by kernel_rfl) (by kernel_rfl) (fun _ _ _ h => h) (Or.inl ⟨by rfl, ?_⟩) hHeld ?_
      rotate_left
      · intro wq hSw
        have c2 := hSw.1.c2
        go_simp
        rfl
      try simp only [Act.put, List.setIfInBounds_toArray, List.set_cons_zero, List.set_cons_succ]
      refine wpAnyH_take (i := 4) (oi := { dst := some 98, op := Op.move (Operand.tmp 10), type := _, pos := _, after := _, guard := _ }) (v := ?_) rfl (by kernel_rfl) (by kernel_rfl) (by kernel_rfl) (fun _ _ _ h => h) (Or.inl ⟨by rfl, ?_⟩) hHeld ?_
      rotate_left
      · intro wq hSw
        go_simp
        rfl
      try simp only [Act.put, List.setIfInBounds_toArray, List.set_cons_zero, List.set_cons_succ]
      refine wpAnyH_take (i := 5) (oi := { dst := some 99, op := Op.indexAddr 36 (Operand.tmp 98) (Operand.const (Value.int IntKind.i64 2)), type := _, pos := _, after := _, guard := _ }) (v := ?_) rfl (by kernel_rfl) (by kernel_rfl) (by kernel_rfl) (fun _ _ _ h => h) (Or.inl ⟨by rfl, ?_⟩) hHeld ?_
      rotate_left
      · intro wq hSw
        go_simp
        rfl
      try simp only [Act.put, List.setIfInBounds_toArray, List.set_cons_zero, List.set_cons_succ]
      refine wpAnyH_take (i := 6) (oi := { dst := some 100, op := Op.load 9 (Operand.tmp 99), type := _, pos := _, after := _, guard := _ }) (v := ?_) rfl (by kernel_rfl) (by kernel_rfl) (by kernel_rfl) (fun _ _ _ h => h) (Or.inl ⟨by rfl, ?_⟩) hHeld ?_
      rotate_left
      · intro wq hSw
        have c2 := hSw.1.c2
        go_simp
        rfl
      try simp only [Act.put, List.setIfInBounds_toArray, List.set_cons_zero, List.set_cons_succ]
      refine wpAnyH_take (i := 7) (oi := { dst := some 101, op := Op.call { callee := Callee.builtin Builtin.len, args := #[Operand.tmp 100], argTypes := #[9] }, type := _, pos := _, after := _, guard := _ }) (v := ?_) rfl (by kernel_rfl) (by kernel_rfl) (by kernel_rfl) (fun _ _ _ h => h) (Or.inl ⟨by rfl, ?_⟩) hHeld ?_
      rotate_left
      · intro wq hSw
        go_simp
        rfl
      try simp only [Act.put, List.setIfInBounds_toArray, List.set_cons_zero, List.set_cons_succ]
      refine wpAnyH_take (i := 8) (oi := { dst := some 102, op := Op.binOp BinOp.sub 3 (Operand.tmp 101) (Operand.const (Value.int IntKind.i64 32)) 3, type := _, pos := _, after := _, guard := _ }) (v := ?_) rfl (by kernel_rfl) (by kernel_rfl) (by kernel_rfl) (fun _ _ _ h => h) (Or.inl ⟨by rfl, ?_⟩) hHeld ?_
      rotate_left
      · intro wq hSw
        go_simp
        rfl
      try simp only [Act.put, List.setIfInBounds_toArray, List.set_cons_zero, List.set_cons_succ]
      refine wpAnyH_take (i := 9) (oi := { dst := some 103, op := Op.slice 9 (Operand.tmp 97) none (some (Operand.tmp 102)) none, type := _, pos := _, after := _, guard := _ }) (v := ?_) rfl (by kernel_rfl) (by kernel_rfl) (by kernel_rfl) (fun _ _ _ h => h) (Or.inl ⟨by rfl, ?_⟩) hHeld ?_
      rotate_left
      · intro wq hSw
        go_simp
        rfl
      try simp only [Act.put, List.setIfInBounds_toArray, List.set_cons_zero, List.set_cons_succ]
      refine wpAnyH_take (i := 12) (oi := { dst := some 106, op := Op.move (Operand.tmp 13), type := _, pos := _, after := _, guard := _ }) (v := ?_) rfl (by kernel_rfl) (by kernel_rfl) (by kernel_rfl) (fun _ _ _ h => h) (Or.inl ⟨by rfl, ?_⟩) hHeld ?_
      rotate_left
      · intro wq hSw
        go_simp
        rfl
      try simp only [Act.put, List.setIfInBounds_toArray, List.set_cons_zero, List.set_cons_succ]
      refine wpAnyH_take (i := 13) (oi := { dst := some 107, op := Op.move (Operand.tmp 12), type := _, pos := _, after := _, guard := _ }) (v := ?_) rfl (by kernel_rfl) (by kernel_rfl) (by kernel_rfl) (fun _ _ _ h => h) (Or.inl ⟨by rfl, ?_⟩) hHeld ?_
      rotate_left
      · intro wq hSw
        go_simp
        rfl
      try simp only [Act.put, List.setIfInBounds_toArray, List.set_cons_zero, List.set_cons_succ]
      refine wpAnyH_take (i := 14) (oi := { dst := some 108, op := Op.move (Operand.tmp 12), type := _, pos := _, after := _, guard := _ }) (v := ?_) rfl (by kernel_rfl) (by kernel_rfl) (by kernel_rfl) (fun _ _ _ h => h) (Or.inl ⟨by rfl, ?_⟩) hHeld ?_
      rotate_left
      · intro wq hSw
        go_simp
        rfl
      try simp only [Act.put, List.setIfInBounds_toArray, List.set_cons_zero, List.set_cons_succ]
      refine wpAnyH_take (i := 15) (oi := { dst := some 109, op := Op.call { callee := Callee.builtin Builtin.len, args := #[Operand.tmp 108], argTypes := #[45] }, type := _, pos := _, after := _, guard := _ }) (v := ?_) rfl (by kernel_rfl) (by kernel_rfl) (by kernel_rfl) (fun _ _ _ h => h) (Or.inl ⟨by rfl, ?_⟩) hHeld ?_
      rotate_left
      · intro wq hSw
        go_simp
        rfl
      try simp only [Act.put, List.setIfInBounds_toArray, List.set_cons_zero, List.set_cons_succ]
      refine wpAnyH_take (i := 16) (oi := { dst := some 110, op := Op.binOp BinOp.sub 3 (Operand.tmp 109) (Operand.const (Value.int IntKind.i64 32)) 3, type := _, pos := _, after := _, guard := _ }) (v := ?_) rfl (by kernel_rfl) (by kernel_rfl) (by kernel_rfl) (fun _ _ _ h => h) (Or.inl ⟨by rfl, ?_⟩) hHeld ?_
      rotate_left
      · intro wq hSw
        go_simp
        rfl
      try simp only [Act.put, List.setIfInBounds_toArray, List.set_cons_zero, List.set_cons_succ]
      refine wpAnyH_take (i := 17) (oi := { dst := some 111, op := Op.slice 45 (Operand.tmp 107) none (some (Operand.tmp 110)) none, type := _, pos := _, after := _, guard := _ }) (v := ?_) rfl (by kernel_rfl) (by kernel_rfl) (by kernel_rfl) (fun _ _ _ h => h) (Or.inl ⟨by rfl, ?_⟩) hHeld ?_
      rotate_left
      · intro wq hSw
        go_simp
        rfl
      try simp only [Act.put, List.setIfInBounds_toArray, List.set_cons_zero, List.set_cons_succ]
      refine wpAnyH_take (i := 18) (oi := { dst := some 112, op := Op.convert 45 9 (Operand.tmp 111), type := _, pos := _, after := _, guard := _ }) (v := ?_) rfl (by kernel_rfl) (by kernel_rfl) (by kernel_rfl) (fun _ _ _ h => h) (Or.inl ⟨by rfl, ?_⟩) hHeld ?_
      rotate_left
      · intro wq hSw
        have cv := hcv _ hSw.2.1
        go_simp
        rfl
      try simp only [Act.put, List.setIfInBounds_toArray, List.set_cons_zero, List.set_cons_succ]
      refine wpAnyH_ready (rs := [10, 19]) (by kernel_rfl) (by simp) ?_
      refine AllReadyH.cons (o := { dst := some 104, op := Op.buildSlice 36 2 #[(0, Operand.tmp 94), (1, Operand.tmp 103)], type := _, pos := _, after := _, guard := _ }) rfl (fun KK hKK => ?_) ?_
      · have hKS := Lib.hid hKK
        clear hKK
        go_simp
        have hx := grow Y1 (Obj.cells #[.string Hd, .string E1] 9)
        refine hKS.out.out _ (Y1.alloc (Obj.cells #[.string Hd, .string E1] 9)) ⟨hHeld.1.below hx, Bt.below hHeld.2.1 hx, Below.own hx hHeld.2.2 hHeld.2.2.lt⟩ (fun hHeld => ?_)
        have p1 := Pt.new2 Y1 Hd E1
        clear hKS KK hx
        generalize Y1.alloc (Obj.cells #[.string Hd, .string E1] 9) = A10 at *
        try simp only [Act.put, List.setIfInBounds_toArray, List.set_cons_zero, List.set_cons_succ]
        refine wpAnyH_ready (rs := [11, 19]) (by kernel_rfl) (by simp) ?_
        refine AllReadyH.cons (o := { dst := some 105, op := Op.call { callee := Callee.value (Operand.func 25), args := #[Operand.tmp 104], argTypes := #[36] }, type := _, pos := _, after := _, guard := _ }) rfl (fun KK hKK => ?_) ?_
        · have hKS := Lib.hid hKK
          clear hKK
          go_simp
          refine (rrow_two _ Hd E1 _ (p1.c 0 Hd rfl) (p1.c 1 E1 rfl) (by omega)).mono ?_
          rintro e w11 ⟨rfl, hx⟩
          go_wp2_with fail
          refine hKS.out.out _ _ ⟨hHeld.1.below hx, Bt.below hHeld.2.1 hx, Below.own hx hHeld.2.2 hHeld.2.2.lt⟩ (fun hHeld => ?_)
          replace p1 := p1.below hx
          clear hKS KK hx
          try simp only [Act.put, List.setIfInBounds_toArray, List.set_cons_zero, List.set_cons_succ]
          refine wpAnyH_ready (rs := [19]) (by kernel_rfl) (by simp) ?_
          refine AllReadyH.cons (o := { dst := some 113, op := Op.buildSlice 36 2 #[(0, Operand.tmp 106), (1, Operand.tmp 112)], type := _, pos := _, after := _, guard := _ }) rfl (fun KK hKK => ?_) AllReadyH.nil
          have hKS := Lib.hid hKK
          clear hKK
          go_simp
          have hx := grow w11 (Obj.cells #[.string Hd, .string E2] 9)
          refine hKS.out.out _ (w11.alloc (Obj.cells #[.string Hd, .string E2] 9)) ⟨hHeld.1.below hx, Bt.below hHeld.2.1 hx, Below.own hx hHeld.2.2 hHeld.2.2.lt⟩ (fun hHeld => ?_)
          replace p1 := p1.below hx
          have p2 := Pt.new2 w11 Hd E2
          clear hKS KK hx
          generalize w11.alloc (Obj.cells #[.string Hd, .string E2] 9) = A19 at *
          try simp only [Act.put, List.setIfInBounds_toArray, List.set_cons_zero, List.set_cons_succ]
          refine wpAnyH_ready (rs := [20]) (by kernel_rfl) (by simp) ?_
          refine AllReadyH.cons (o := { dst := some 114, op := Op.call { callee := Callee.value (Operand.func 25), args := #[Operand.tmp 113], argTypes := #[36] }, type := _, pos := _, after := _, guard := _ }) rfl (fun KK hKK => ?_) AllReadyH.nil
          have hKS := Lib.hid hKK
          clear hKK
          go_simp
          refine (rrow_two _ Hd E2 _ (p2.c 0 Hd rfl) (p2.c 1 E2 rfl) (by omega)).mono ?_
          rintro e w20 ⟨rfl, hx⟩
          go_wp2_with fail
          refine hKS.out.out _ _ ⟨hHeld.1.below hx, Bt.below hHeld.2.1 hx, Below.own hx hHeld.2.2 hHeld.2.2.lt⟩ (fun hHeld => ?_)
          replace p1 := p1.below hx
          replace p2 := p2.below hx
          clear hKS KK hx
          try simp only [Act.put, List.setIfInBounds_toArray, List.set_cons_zero, List.set_cons_succ]
          refine wpAnyH_take (i := 21) (oi := { dst := some 15, op := Op.assign (Operand.tmp 105), type := _, pos := _, after := _, guard := _ }) (v := ?_) rfl (by kernel_rfl) (by kernel_rfl) (by kernel_rfl) (fun _ _ _ h => h) (Or.inl ⟨by rfl, ?_⟩) hHeld ?_
          rotate_left
          · intro wq hSw
            go_simp
            rfl
          try simp only [Act.put, List.setIfInBounds_toArray, List.set_cons_zero, List.set_cons_succ]
          refine wpAnyH_take (i := 22) (oi := { dst := some 16, op := Op.assign (Operand.tmp 114), type := _, pos := _, after := _, guard := _ }) (v := ?_) rfl (by kernel_rfl) (by kernel_rfl) (by kernel_rfl) (fun _ _ _ h => h) (Or.inl ⟨by rfl, ?_⟩) hHeld ?_
          rotate_left
          · intro wq hSw
            go_simp
            rfl
          try simp only [Act.put, List.setIfInBounds_toArray, List.set_cons_zero, List.set_cons_succ]
          refine wpAnyH_done (by kernel_rfl) ?_ _
          go_wp2_with fail
          go_meet
          case rel => exact ⟨rfl, rfl, hHeld.1, hHeld.2.1, hHeld.2.2⟩
        refine AllReadyH.cons (o := { dst := some 113, op := Op.buildSlice 36 2 #[(0, Operand.tmp 106), (1, Operand.tmp 112)], type := _, pos := _, after := _, guard := _ }) rfl (fun KK hKK => ?_) AllReadyH.nil
        · have hKS := Lib.hid hKK
          clear hKK
          go_simp
          have hx := grow A10 (Obj.cells #[.string Hd, .string E2] 9)
          refine hKS.out.out _ (A10.alloc (Obj.cells #[.string Hd, .string E2] 9)) ⟨hHeld.1.below hx, Bt.below hHeld.2.1 hx, Below.own hx hHeld.2.2 hHeld.2.2.lt⟩ (fun hHeld => ?_)
          replace p1 := p1.below hx
          have p2 := Pt.new2 A10 Hd E2
          clear hKS KK hx
          generalize A10.alloc (Obj.cells #[.string Hd, .string E2] 9) = A19 at *
          try simp only [Act.put, List.setIfInBounds_toArray, List.set_cons_zero, List.set_cons_succ]
          refine wpAnyH_ready (rs := [11]) (by kernel_rfl) (by simp) ?_
          refine AllReadyH.cons (o := { dst := some 105, op := Op.call { callee := Callee.value (Operand.func 25), args := #[Operand.tmp 104], argTypes := #[36] }, type := _, pos := _, after := _, guard := _ }) rfl (fun KK hKK => ?_) AllReadyH.nil
          have hKS := Lib.hid hKK
          clear hKK
          go_simp
          refine (rrow_two _ Hd E1 _ (p1.c 0 Hd rfl) (p1.c 1 E1 rfl) (by omega)).mono ?_
          rintro e w11 ⟨rfl, hx⟩
          go_wp2_with fail
          refine hKS.out.out _ _ ⟨hHeld.1.below hx, Bt.below hHeld.2.1 hx, Below.own hx hHeld.2.2 hHeld.2.2.lt⟩ (fun hHeld => ?_)
          replace p1 := p1.below hx
          replace p2 := p2.below hx
          clear hKS KK hx
          try simp only [Act.put, List.setIfInBounds_toArray, List.set_cons_zero, List.set_cons_succ]
          refine wpAnyH_ready (rs := [20]) (by kernel_rfl) (by simp) ?_
          refine AllReadyH.cons (o := { dst := some 114, op := Op.call { callee := Callee.value (Operand.func 25), args := #[Operand.tmp 113], argTypes := #[36] }, type := _, pos := _, after := _, guard := _ }) rfl (fun KK hKK => ?_) AllReadyH.nil
          have hKS := Lib.hid hKK
          clear hKK
          go_simp
          refine (rrow_two _ Hd E2 _ (p2.c 0 Hd rfl) (p2.c 1 E2 rfl) (by omega)).mono ?_
          rintro e w20 ⟨rfl, hx⟩
          go_wp2_with fail
          refine hKS.out.out _ _ ⟨hHeld.1.below hx, Bt.below hHeld.2.1 hx, Below.own hx hHeld.2.2 hHeld.2.2.lt⟩ (fun hHeld => ?_)
          replace p1 := p1.below hx
          replace p2 := p2.below hx
          clear hKS KK hx
          try simp only [Act.put, List.setIfInBounds_toArray, List.set_cons_zero, List.set_cons_succ]
          refine wpAnyH_take (i := 21) (oi := { dst := some 15, op := Op.assign (Operand.tmp 105), type := _, pos := _, after := _, guard := _ }) (v := ?_) rfl (by kernel_rfl) (by kernel_rfl) (by kernel_rfl) (fun _ _ _ h => h) (Or.inl ⟨by rfl, ?_⟩) hHeld ?_
          rotate_left
          · intro wq hSw
            go_simp
            rfl
          try simp only [Act.put, List.setIfInBounds_toArray, List.set_cons_zero, List.set_cons_succ]
          refine wpAnyH_take (i := 22) (oi := { dst := some 16, op := Op.assign (Operand.tmp 114), type := _, pos := _, after := _, guard := _ }) (v := ?_) rfl (by kernel_rfl) (by kernel_rfl) (by kernel_rfl) (fun _ _ _ h => h) (Or.inl ⟨by rfl, ?_⟩) hHeld ?_
          rotate_left
          · intro wq hSw
            go_simp
            rfl
          try simp only [Act.put, List.setIfInBounds_toArray, List.set_cons_zero, List.set_cons_succ]
          refine wpAnyH_done (by kernel_rfl) ?_ _
          go_wp2_with fail
          go_meet
          case rel => exact ⟨rfl, rfl, hHeld.1, hHeld.2.1, hHeld.2.2⟩
      refine AllReadyH.cons (o := { dst := some 113, op := Op.buildSlice 36 2 #[(0, Operand.tmp 106), (1, Operand.tmp 112)], type := _, pos := _, after := _, guard := _ }) rfl (fun KK hKK => ?_) AllReadyH.nil
      · have hKS := Lib.hid hKK
        clear hKK
        go_simp
        have hx := grow Y1 (Obj.cells #[.string Hd, .string E2] 9)
        refine hKS.out.out _ (Y1.alloc (Obj.cells #[.string Hd, .string E2] 9)) ⟨hHeld.1.below hx, Bt.below hHeld.2.1 hx, Below.own hx hHeld.2.2 hHeld.2.2.lt⟩ (fun hHeld => ?_)
        have p2 := Pt.new2 Y1 Hd E2
        clear hKS KK hx
        generalize Y1.alloc (Obj.cells #[.string Hd, .string E2] 9) = A19 at *
        try simp only [Act.put, List.setIfInBounds_toArray, List.set_cons_zero, List.set_cons_succ]
        refine wpAnyH_ready (rs := [10]) (by kernel_rfl) (by simp) ?_
        refine AllReadyH.cons (o := { dst := some 104, op := Op.buildSlice 36 2 #[(0, Operand.tmp 94), (1, Operand.tmp 103)], type := _, pos := _, after := _, guard := _ }) rfl (fun KK hKK => ?_) AllReadyH.nil
        have hKS := Lib.hid hKK
        clear hKK
        go_simp
        have hx := grow A19 (Obj.cells #[.string Hd, .string E1] 9)
        refine hKS.out.out _ (A19.alloc (Obj.cells #[.string Hd, .string E1] 9)) ⟨hHeld.1.below hx, Bt.below hHeld.2.1 hx, Below.own hx hHeld.2.2 hHeld.2.2.lt⟩ (fun hHeld => ?_)
        replace p2 := p2.below hx
        have p1 := Pt.new2 A19 Hd E1
        clear hKS KK hx
        generalize A19.alloc (Obj.cells #[.string Hd, .string E1] 9) = A10 at *
        try simp only [Act.put, List.setIfInBounds_toArray, List.set_cons_zero, List.set_cons_succ]
        refine wpAnyH_ready (rs := [11]) (by kernel_rfl) (by simp) ?_
        refine AllReadyH.cons (o := { dst := some 105, op := Op.call { callee := Callee.value (Operand.func 25), args := #[Operand.tmp 104], argTypes := #[36] }, type := _, pos := _, after := _, guard := _ }) rfl (fun KK hKK => ?_) AllReadyH.nil
        have hKS := Lib.hid hKK
        clear hKK
        go_simp
        refine (rrow_two _ Hd E1 _ (p1.c 0 Hd rfl) (p1.c 1 E1 rfl) (by omega)).mono ?_
        rintro e w11 ⟨rfl, hx⟩
        go_wp2_with fail
        refine hKS.out.out _ _ ⟨hHeld.1.below hx, Bt.below hHeld.2.1 hx, Below.own hx hHeld.2.2 hHeld.2.2.lt⟩ (fun hHeld => ?_)
        replace p2 := p2.below hx
        replace p1 := p1.below hx
        clear hKS KK hx
        try simp only [Act.put, List.setIfInBounds_toArray, List.set_cons_zero, List.set_cons_succ]
        refine wpAnyH_ready (rs := [20]) (by kernel_rfl) (by simp) ?_
        refine AllReadyH.cons (o := { dst := some 114, op := Op.call { callee := Callee.value (Operand.func 25), args := #[Operand.tmp 113], argTypes := #[36] }, type := _, pos := _, after := _, guard := _ }) rfl (fun KK hKK => ?_) AllReadyH.nil
        have hKS := Lib.hid hKK
        clear hKK
        go_simp
        refine (rrow_two _ Hd E2 _ (p2.c 0 Hd rfl) (p2.c 1 E2 rfl) (by omega)).mono ?_
        rintro e w20 ⟨rfl, hx⟩
        go_wp2_with fail
        refine hKS.out.out _ _ ⟨hHeld.1.below hx, Bt.below hHeld.2.1 hx, Below.own hx hHeld.2.2 hHeld.2.2.lt⟩ (fun hHeld => ?_)
        replace p2 := p2.below hx
        replace p1 := p1.below hx
        clear hKS KK hx
        try simp only [Act.put, List.setIfInBounds_toArray, List.set_cons_zero, List.set_cons_succ]
        refine wpAnyH_take (i := 21) (oi := { dst := some 15, op := Op.assign (Operand.tmp 105), type := _, pos := _, after := _, guard := _ }) (v := ?_) rfl (by kernel_rfl) (by kernel_rfl) (by kernel_rfl) (fun _ _ _ h => h) (Or.inl ⟨by rfl, ?_⟩) hHeld ?_
        rotate_left
        · intro wq hSw
          go_simp
          rfl
        try simp only [Act.put, List.setIfInBounds_toArray, List.set_cons_zero, List.set_cons_succ]
        refine wpAnyH_take (i := 22) (oi := { dst := some 16, op := Op.assign (Operand.tmp 114), type := _, pos := _, after := _, guard := _ }) (v := ?_) rfl (by kernel_rfl) (by kernel_rfl) (by kernel_rfl) (fun _ _ _ h => h) (Or.inl ⟨by rfl, ?_⟩) hHeld ?_
        rotate_left
        · intro wq hSw
          go_simp
          rfl
        try simp only [Act.put, List.setIfInBounds_toArray, List.set_cons_zero, List.set_cons_succ]
        refine wpAnyH_done (by kernel_rfl) ?_ _
        go_wp2_with fail
        go_meet
        case rel => exact ⟨rfl, rfl, hHeld.1, hHeld.2.1, hHeld.2.2⟩
    case rest =>
      clear st bt oT
      obtain ⟨rfl, rfl, st, bt, oT⟩ := hcut
      have zr1 := rowN_size Hd E1 (by omega)
      have zr2 := rowN_size Hd E2 (by omega)
      clear hcv e4 l4 l5 n4
      generalize rowN Hd E1 = R1 at *
      generalize rowN Hd E2 = R2 at *
      have hx := grow wc (Obj.cells #[.string R1, .string R2] 9)
      have pt := Pt.new2 wc R1 R2
      have st2 := st.below hx
      have bt2 := Bt.below bt hx
      have hap := apk_any wc.heap.size T R1 R2 (wc.alloc (Obj.cells #[.string R1, .string R2] 9)) bT lT pt (by omega) (by omega)
      clear hx pt
      go_wp2_with (first | refine ld t28 rfl rfl rfl oT lT ?_)
      refine hap.mono ?_
      rintro e w6 ⟨rfl, hx⟩
      have st := st2.below hx
      have bt := Bt.below bt2 hx
      clear hx st2 bt2 hap oT
      cases hA : apt R1 R2 (Bl.keyed T (tn R1)) (Bl.keyed T (tn R2)) with
      | false =>
        go_wp2_with fail
        refine (hfx _ st.b).mono ?_
        rintro e w7 ⟨rfl, hx⟩
        have b7 := st.b.trans (hx.mono st.b.size)
        go_wp2_with fail
        go_ret
        exact ⟨rfl, b7⟩
      | true =>
        have htk := hbt hA
        have z8 := num8_size c.n
        have zrow : (rowL [c.m, num8 c.n, X]).size ≤ 10000 := by
          have e : Un.Nm.room [c.m, num8 c.n, X] = c.m.size + X.size + 23 := by simp [Un.Nm.room, z8]; omega
          have := rowL_size [c.m, num8 c.n, X] (by rw [e]; omega)
          rw [e] at this
          omega
        have htake := fun wr (h : Below w.heap.size w wr) => stake_any c (rowL [c.m, num8 c.n, X]) wr hc (hT.below h) (by omega) zrow
        rw [htk] at htake
        clear hA hbt htk
        go_upto_region 14 with fail
        refine wp_region_held_drew (S := fun V => SC w c P g off c.m (num8 c.n) box V ∧ Bt V gB L) (by kernel_rfl) ⟨st.drew, bt⟩ (fun hHeld => ?_)
        clear st bt
        generalize w6.drew = Y2 at *
        refine wpAnyH_take (i := 0) (oi := { dst := some 123, op := Op.load 26 (Operand.tmp 3), type := _, pos := _, after := _, guard := _ }) rfl (by kernel_rfl) (by kernel_rfl) (by kernel_rfl) (fun _ _ _ h => h) (yl26 (by rfl) _ rfl _ rfl (fun w1 h => h.1.k) hc.k) hHeld ?_
        try simp only [Act.put, List.setIfInBounds_toArray, List.set_cons_zero, List.set_cons_succ]
        refine wpAnyH_take (i := 1) (oi := { dst := some 124, op := Op.move (Operand.tmp 10), type := _, pos := _, after := _, guard := _ }) (v := ?_) rfl (by kernel_rfl) (by kernel_rfl) (by kernel_rfl) (fun _ _ _ h => h) (Or.inl ⟨by rfl, ?_⟩) hHeld ?_
        rotate_left
        · intro wq hSw
          go_simp
          rfl
        try simp only [Act.put, List.setIfInBounds_toArray, List.set_cons_zero, List.set_cons_succ]
        refine wpAnyH_take (i := 2) (oi := { dst := some 125, op := Op.indexAddr 36 (Operand.tmp 124) (Operand.const (Value.int IntKind.i64 0)), type := _, pos := _, after := _, guard := _ }) (v := ?_) rfl (by kernel_rfl) (by kernel_rfl) (by kernel_rfl) (fun _ _ _ h => h) (Or.inl ⟨by rfl, ?_⟩) hHeld ?_
        rotate_left
        · intro wq hSw
          go_simp
          rfl
        try simp only [Act.put, List.setIfInBounds_toArray, List.set_cons_zero, List.set_cons_succ]
        refine wpAnyH_take (i := 3) (oi := { dst := some 126, op := Op.load 9 (Operand.tmp 125), type := _, pos := _, after := _, guard := _ }) (v := ?_) rfl (by kernel_rfl) (by kernel_rfl) (by kernel_rfl) (fun _ _ _ h => h) (Or.inl ⟨by rfl, ?_⟩) hHeld ?_
        rotate_left
        · intro wq hSw
          have t0 := hSw.1.c0
          go_simp
          rfl
        try simp only [Act.put, List.setIfInBounds_toArray, List.set_cons_zero, List.set_cons_succ]
        refine wpAnyH_take (i := 4) (oi := { dst := some 127, op := Op.move (Operand.tmp 10), type := _, pos := _, after := _, guard := _ }) (v := ?_) rfl (by kernel_rfl) (by kernel_rfl) (by kernel_rfl) (fun _ _ _ h => h) (Or.inl ⟨by rfl, ?_⟩) hHeld ?_
        rotate_left
        · intro wq hSw
          go_simp
          rfl
        try simp only [Act.put, List.setIfInBounds_toArray, List.set_cons_zero, List.set_cons_succ]
        refine wpAnyH_take (i := 5) (oi := { dst := some 128, op := Op.indexAddr 36 (Operand.tmp 127) (Operand.const (Value.int IntKind.i64 1)), type := _, pos := _, after := _, guard := _ }) (v := ?_) rfl (by kernel_rfl) (by kernel_rfl) (by kernel_rfl) (fun _ _ _ h => h) (Or.inl ⟨by rfl, ?_⟩) hHeld ?_
        rotate_left
        · intro wq hSw
          go_simp
          rfl
        try simp only [Act.put, List.setIfInBounds_toArray, List.set_cons_zero, List.set_cons_succ]
        refine wpAnyH_take (i := 6) (oi := { dst := some 129, op := Op.load 9 (Operand.tmp 128), type := _, pos := _, after := _, guard := _ }) (v := ?_) rfl (by kernel_rfl) (by kernel_rfl) (by kernel_rfl) (fun _ _ _ h => h) (Or.inl ⟨by rfl, ?_⟩) hHeld ?_
        rotate_left
        · intro wq hSw
          have t1 := hSw.1.c1
          go_simp
          rfl
        try simp only [Act.put, List.setIfInBounds_toArray, List.set_cons_zero, List.set_cons_succ]
        refine wpAnyH_take (i := 7) (oi := { dst := some 130, op := Op.move (Operand.tmp 12), type := _, pos := _, after := _, guard := _ }) (v := ?_) rfl (by kernel_rfl) (by kernel_rfl) (by kernel_rfl) (fun _ _ _ h => h) (Or.inl ⟨by rfl, ?_⟩) hHeld ?_
        rotate_left
        · intro wq hSw
          go_simp
          rfl
        try simp only [Act.put, List.setIfInBounds_toArray, List.set_cons_zero, List.set_cons_succ]
        refine wpAnyH_take (i := 8) (oi := { dst := some 131, op := Op.convert 45 9 (Operand.tmp 130), type := _, pos := _, after := _, guard := _ }) (v := ?_) rfl (by kernel_rfl) (by kernel_rfl) (by kernel_rfl) (fun _ _ _ h => h) (Or.inl ⟨by rfl, ?_⟩) hHeld ?_
        rotate_left
        · intro wq hSw
          have cv := HCF.out _ hSw.2
          go_simp
          rfl
        try simp only [Act.put, List.setIfInBounds_toArray, List.set_cons_zero, List.set_cons_succ]
        refine wpAnyH_ready (rs := [9, 16]) (by kernel_rfl) (by simp) ?_
        refine AllReadyH.cons (o := { dst := some 132, op := Op.buildSlice 36 3 #[(0, Operand.tmp 126), (1, Operand.tmp 129), (2, Operand.tmp 131)], type := _, pos := _, after := _, guard := _ }) rfl (fun KK hKK => ?_) ?_
        · have hKS := Lib.hid hKK
          clear hKK
          go_simp
          have hx := grow Y2 (Obj.cells #[.string c.m, .string (num8 c.n), .string X] 9)
          refine hKS.out.out _ (Y2.alloc (Obj.cells #[.string c.m, .string (num8 c.n), .string X] 9)) ⟨hHeld.1.below hx, Bt.below hHeld.2 hx⟩ (fun hHeld => ?_)
          have ts := ts_three Y2 c.m (num8 c.n) X
          clear hKS KK hx
          generalize Y2.alloc (Obj.cells #[.string c.m, .string (num8 c.n), .string X] 9) = A9 at *
          try simp only [Act.put, List.setIfInBounds_toArray, List.set_cons_zero, List.set_cons_succ]
          refine wpAnyH_ready (rs := [10, 16]) (by kernel_rfl) (by simp) ?_
          refine AllReadyH.cons (o := { dst := some 133, op := Op.call { callee := Callee.value (Operand.func 25), args := #[Operand.tmp 132], argTypes := #[36] }, type := _, pos := _, after := _, guard := _ }) rfl (fun KK hKK => ?_) ?_
          · have hKS := Lib.hid hKK
            clear hKK
            go_simp
            refine (Un.Nm.rrow_any _ 3 3 [c.m, num8 c.n, X] _ ts (by simp [Un.Nm.room, z8]; omega) (by omega)).mono ?_
            rintro e w10 ⟨rfl, hx⟩
            go_wp2_with fail
            refine hKS.out.out _ _ ⟨hHeld.1.below hx, Bt.below hHeld.2 hx⟩ (fun hHeld => ?_)
            clear hKS KK hx ts
            try simp only [Act.put, List.setIfInBounds_toArray, List.set_cons_zero, List.set_cons_succ]
            refine wpAnyH_ready (rs := [11, 16]) (by kernel_rfl) (by simp) ?_
            refine AllReadyH.cons (o := { dst := some 134, op := Op.call { callee := Callee.value (Operand.func 18), args := #[Operand.tmp 123, Operand.tmp 133], argTypes := #[26, 9] }, type := _, pos := _, after := _, guard := _ }) rfl (fun KK hKK => ?_) ?_
            · have hKS := Lib.hid hKK
              clear hKK
              go_simp
              refine (htake _ hHeld.1.b).mono ?_
              rintro e x11 ⟨rfl, hx⟩
              dsimp only [rsv, bad]
              go_wp2_with fail
              refine hKS.out.out _ _ ⟨hHeld.1.below hx, Bt.below hHeld.2 hx⟩ (fun hHeld => ?_)
              clear hKS KK hx
              try simp only [Act.put, List.setIfInBounds_toArray, List.set_cons_zero, List.set_cons_succ]
              refine wpAnyH_take (i := 12) (oi := { dst := some 122, op := Op.move (Operand.tmp 134), type := _, pos := _, after := _, guard := _ }) (v := ?_) rfl (by kernel_rfl) (by kernel_rfl) (by kernel_rfl) (fun _ _ _ h => h) (Or.inl ⟨by rfl, ?_⟩) hHeld ?_
              rotate_left
              · intro wq hSw
                go_simp
                rfl
              try simp only [Act.put, List.setIfInBounds_toArray, List.set_cons_zero, List.set_cons_succ]
              refine wpAnyH_take (i := 13) (oi := { dst := some 135, op := Op.extract (Operand.tmp 122) 0, type := _, pos := _, after := _, guard := _ }) (v := ?_) rfl (by kernel_rfl) (by kernel_rfl) (by kernel_rfl) (fun _ _ _ h => h) (Or.inl ⟨by rfl, ?_⟩) hHeld ?_
              rotate_left
              · intro wq hSw
                go_simp
                rfl
              try simp only [Act.put, List.setIfInBounds_toArray, List.set_cons_zero, List.set_cons_succ]
              refine wpAnyH_take (i := 14) (oi := { dst := some 136, op := Op.extract (Operand.tmp 122) 1, type := _, pos := _, after := _, guard := _ }) (v := ?_) rfl (by kernel_rfl) (by kernel_rfl) (by kernel_rfl) (fun _ _ _ h => h) (Or.inl ⟨by rfl, ?_⟩) hHeld ?_
              rotate_left
              · intro wq hSw
                go_simp
                rfl
              try simp only [Act.put, List.setIfInBounds_toArray, List.set_cons_zero, List.set_cons_succ]
              refine wpAnyH_take (i := 15) (oi := { dst := some 137, op := Op.extract (Operand.tmp 122) 2, type := _, pos := _, after := _, guard := _ }) (v := ?_) rfl (by kernel_rfl) (by kernel_rfl) (by kernel_rfl) (fun _ _ _ h => h) (Or.inl ⟨by rfl, ?_⟩) hHeld ?_
              rotate_left
              · intro wq hSw
                go_simp
                rfl
              try simp only [Act.put, List.setIfInBounds_toArray, List.set_cons_zero, List.set_cons_succ]
              refine wpAnyH_ready (rs := [16]) (by kernel_rfl) (by simp) ?_
              refine AllReadyH.cons (o := { dst := some 17, op := Op.alloc 26, type := _, pos := _, after := _, guard := _ }) rfl (fun KK hKK => ?_) AllReadyH.nil
              have hKS := Lib.hid hKK
              clear hKK
              go_simp
              have hx := grow x11 (Obj.cells (chv zCh) 26)
              have gA : w.heap.size + 2 ≤ x11.heap.size := hHeld.1.p.lt
              have gB2 := Bt.lt hHeld.2
              have gg2 : g < x11.heap.size := World.block_lt_of_cell? _ _ hHeld.1.c0
              refine hKS.out.out _ (x11.alloc (Obj.cells (chv zCh) 26)) ⟨hHeld.1.below hx, Bt.below hHeld.2 hx⟩ (fun hHeld => ?_)
              have zA := Cb.new x11 zCh zCh_ok.k
              clear hKS KK hx
              generalize x11.alloc (Obj.cells (chv zCh) 26) = B16 at *
              try simp only [Act.put, List.setIfInBounds_toArray, List.set_cons_zero, List.set_cons_succ]
              refine wpAnyH_ready (rs := [17]) (by kernel_rfl) (by simp) ?_
              refine AllReadyH.cons (o := { dst := none, op := Op.store 26 (Operand.tmp 17) (Operand.tmp 135), type := _, pos := _, after := _, guard := _ }) rfl (fun KK hKK => ?_) AllReadyH.nil
              have hKS := Lib.hid hKK
              clear hKK
              refine wst26 (d := zCh) (c := zCh) zCh_ok.k rfl rfl rfl zA ?_
              have bR := below_row hHeld.1.b (show w.heap.size ≤ _ from Nat.le_trans (Nat.le_add_right _ 2) gA) (chv zCh)
              refine hKS.out.out _ _ ⟨⟨hHeld.1.k.rowOther _ (by omega), hHeld.1.p.rowOther _ _ (by omega), (World.cell?_of_block (heap_setRow _ _ _ _ (by show g ≠ _; omega))).trans hHeld.1.c0, (World.cell?_of_block (heap_setRow _ _ _ _ (by show g ≠ _; omega))).trans hHeld.1.c1, (World.cell?_of_block (heap_setRow _ _ _ _ (by show g ≠ _; omega))).trans hHeld.1.c2, bR⟩, Bt.rowOther hHeld.2 (by omega) _⟩ (fun hHeld => ?_)
              clear hKS KK zA
              try simp only [Act.put, List.setIfInBounds_toArray, List.set_cons_zero, List.set_cons_succ]
              refine wpAnyH_take (i := 18) (oi := { dst := some 18, op := Op.assign (Operand.tmp 136), type := _, pos := _, after := _, guard := _ }) (v := ?_) rfl (by kernel_rfl) (by kernel_rfl) (by kernel_rfl) (fun _ _ _ h => h) (Or.inl ⟨by rfl, ?_⟩) hHeld ?_
              rotate_left
              · intro wq hSw
                go_simp
                rfl
              try simp only [Act.put, List.setIfInBounds_toArray, List.set_cons_zero, List.set_cons_succ]
              refine wpAnyH_take (i := 19) (oi := { dst := some 19, op := Op.assign (Operand.tmp 137), type := _, pos := _, after := _, guard := _ }) (v := ?_) rfl (by kernel_rfl) (by kernel_rfl) (by kernel_rfl) (fun _ _ _ h => h) (Or.inl ⟨by rfl, ?_⟩) hHeld ?_
              rotate_left
              · intro wq hSw
                go_simp
                rfl
              try simp only [Act.put, List.setIfInBounds_toArray, List.set_cons_zero, List.set_cons_succ]
              refine wpAnyH_done (by kernel_rfl) ?_ _
              go_wp2_with fail
              refine (hfx _ hHeld.1.b).mono ?_
              rintro e w9 ⟨rfl, hx⟩
              have b9 := hHeld.1.b.trans (hx.mono hHeld.1.b.size)
              go_wp2_with fail
              go_ret
              exact ⟨rfl, b9⟩
            refine AllReadyH.cons (o := { dst := some 17, op := Op.alloc 26, type := _, pos := _, after := _, guard := _ }) rfl (fun KK hKK => ?_) AllReadyH.nil
            · have hKS := Lib.hid hKK
              clear hKK
              go_simp
              have hx := grow w10 (Obj.cells (chv zCh) 26)
              have gA : w.heap.size + 2 ≤ w10.heap.size := hHeld.1.p.lt
              have gB2 := Bt.lt hHeld.2
              have gg2 : g < w10.heap.size := World.block_lt_of_cell? _ _ hHeld.1.c0
              refine hKS.out.out _ (w10.alloc (Obj.cells (chv zCh) 26)) ⟨hHeld.1.below hx, Bt.below hHeld.2 hx⟩ (fun hHeld => ?_)
              have zA := Cb.new w10 zCh zCh_ok.k
              clear hKS KK hx
              generalize w10.alloc (Obj.cells (chv zCh) 26) = B16 at *
              try simp only [Act.put, List.setIfInBounds_toArray, List.set_cons_zero, List.set_cons_succ]
              refine wpAnyH_ready (rs := [11]) (by kernel_rfl) (by simp) ?_
              refine AllReadyH.cons (o := { dst := some 134, op := Op.call { callee := Callee.value (Operand.func 18), args := #[Operand.tmp 123, Operand.tmp 133], argTypes := #[26, 9] }, type := _, pos := _, after := _, guard := _ }) rfl (fun KK hKK => ?_) AllReadyH.nil
              have hKS := Lib.hid hKK
              clear hKK
              go_simp
              refine (htake _ hHeld.1.b).mono ?_
              rintro e x11 ⟨rfl, hx⟩
              dsimp only [rsv, bad]
              go_wp2_with fail
              refine hKS.out.out _ _ ⟨hHeld.1.below hx, Bt.below hHeld.2 hx⟩ (fun hHeld => ?_)
              replace zA := zA.below hx
              clear hKS KK hx
              try simp only [Act.put, List.setIfInBounds_toArray, List.set_cons_zero, List.set_cons_succ]
              refine wpAnyH_take (i := 12) (oi := { dst := some 122, op := Op.move (Operand.tmp 134), type := _, pos := _, after := _, guard := _ }) (v := ?_) rfl (by kernel_rfl) (by kernel_rfl) (by kernel_rfl) (fun _ _ _ h => h) (Or.inl ⟨by rfl, ?_⟩) hHeld ?_
              rotate_left
              · intro wq hSw
                go_simp
                rfl
              try simp only [Act.put, List.setIfInBounds_toArray, List.set_cons_zero, List.set_cons_succ]
              refine wpAnyH_take (i := 13) (oi := { dst := some 135, op := Op.extract (Operand.tmp 122) 0, type := _, pos := _, after := _, guard := _ }) (v := ?_) rfl (by kernel_rfl) (by kernel_rfl) (by kernel_rfl) (fun _ _ _ h => h) (Or.inl ⟨by rfl, ?_⟩) hHeld ?_
              rotate_left
              · intro wq hSw
                go_simp
                rfl
              try simp only [Act.put, List.setIfInBounds_toArray, List.set_cons_zero, List.set_cons_succ]
              refine wpAnyH_take (i := 14) (oi := { dst := some 136, op := Op.extract (Operand.tmp 122) 1, type := _, pos := _, after := _, guard := _ }) (v := ?_) rfl (by kernel_rfl) (by kernel_rfl) (by kernel_rfl) (fun _ _ _ h => h) (Or.inl ⟨by rfl, ?_⟩) hHeld ?_
              rotate_left
              · intro wq hSw
                go_simp
                rfl
              try simp only [Act.put, List.setIfInBounds_toArray, List.set_cons_zero, List.set_cons_succ]
              refine wpAnyH_take (i := 15) (oi := { dst := some 137, op := Op.extract (Operand.tmp 122) 2, type := _, pos := _, after := _, guard := _ }) (v := ?_) rfl (by kernel_rfl) (by kernel_rfl) (by kernel_rfl) (fun _ _ _ h => h) (Or.inl ⟨by rfl, ?_⟩) hHeld ?_
              rotate_left
              · intro wq hSw
                go_simp
                rfl
              try simp only [Act.put, List.setIfInBounds_toArray, List.set_cons_zero, List.set_cons_succ]
              refine wpAnyH_ready (rs := [17]) (by kernel_rfl) (by simp) ?_
              refine AllReadyH.cons (o := { dst := none, op := Op.store 26 (Operand.tmp 17) (Operand.tmp 135), type := _, pos := _, after := _, guard := _ }) rfl (fun KK hKK => ?_) AllReadyH.nil
              have hKS := Lib.hid hKK
              clear hKK
              refine wst26 (d := zCh) (c := zCh) zCh_ok.k rfl rfl rfl zA ?_
              have bR := below_row hHeld.1.b (show w.heap.size ≤ _ from Nat.le_trans (Nat.le_add_right _ 2) gA) (chv zCh)
              refine hKS.out.out _ _ ⟨⟨hHeld.1.k.rowOther _ (by omega), hHeld.1.p.rowOther _ _ (by omega), (World.cell?_of_block (heap_setRow _ _ _ _ (by show g ≠ _; omega))).trans hHeld.1.c0, (World.cell?_of_block (heap_setRow _ _ _ _ (by show g ≠ _; omega))).trans hHeld.1.c1, (World.cell?_of_block (heap_setRow _ _ _ _ (by show g ≠ _; omega))).trans hHeld.1.c2, bR⟩, Bt.rowOther hHeld.2 (by omega) _⟩ (fun hHeld => ?_)
              clear hKS KK zA
              try simp only [Act.put, List.setIfInBounds_toArray, List.set_cons_zero, List.set_cons_succ]
              refine wpAnyH_take (i := 18) (oi := { dst := some 18, op := Op.assign (Operand.tmp 136), type := _, pos := _, after := _, guard := _ }) (v := ?_) rfl (by kernel_rfl) (by kernel_rfl) (by kernel_rfl) (fun _ _ _ h => h) (Or.inl ⟨by rfl, ?_⟩) hHeld ?_
              rotate_left
              · intro wq hSw
                go_simp
                rfl
              try simp only [Act.put, List.setIfInBounds_toArray, List.set_cons_zero, List.set_cons_succ]
              refine wpAnyH_take (i := 19) (oi := { dst := some 19, op := Op.assign (Operand.tmp 137), type := _, pos := _, after := _, guard := _ }) (v := ?_) rfl (by kernel_rfl) (by kernel_rfl) (by kernel_rfl) (fun _ _ _ h => h) (Or.inl ⟨by rfl, ?_⟩) hHeld ?_
              rotate_left
              · intro wq hSw
                go_simp
                rfl
              try simp only [Act.put, List.setIfInBounds_toArray, List.set_cons_zero, List.set_cons_succ]
              refine wpAnyH_done (by kernel_rfl) ?_ _
              go_wp2_with fail
              refine (hfx _ hHeld.1.b).mono ?_
              rintro e w9 ⟨rfl, hx⟩
              have b9 := hHeld.1.b.trans (hx.mono hHeld.1.b.size)
              go_wp2_with fail
              go_ret
              exact ⟨rfl, b9⟩
          refine AllReadyH.cons (o := { dst := some 17, op := Op.alloc 26, type := _, pos := _, after := _, guard := _ }) rfl (fun KK hKK => ?_) AllReadyH.nil
          · have hKS := Lib.hid hKK
            clear hKK
            go_simp
            have hx := grow A9 (Obj.cells (chv zCh) 26)
            have gA : w.heap.size + 2 ≤ A9.heap.size := hHeld.1.p.lt
            have gB2 := Bt.lt hHeld.2
            have gg2 : g < A9.heap.size := World.block_lt_of_cell? _ _ hHeld.1.c0
            refine hKS.out.out _ (A9.alloc (Obj.cells (chv zCh) 26)) ⟨hHeld.1.below hx, Bt.below hHeld.2 hx⟩ (fun hHeld => ?_)
            replace ts := ts.below hx
            have zA := Cb.new A9 zCh zCh_ok.k
            clear hKS KK hx
            generalize A9.alloc (Obj.cells (chv zCh) 26) = B16 at *
            try simp only [Act.put, List.setIfInBounds_toArray, List.set_cons_zero, List.set_cons_succ]
            refine wpAnyH_ready (rs := [10]) (by kernel_rfl) (by simp) ?_
            refine AllReadyH.cons (o := { dst := some 133, op := Op.call { callee := Callee.value (Operand.func 25), args := #[Operand.tmp 132], argTypes := #[36] }, type := _, pos := _, after := _, guard := _ }) rfl (fun KK hKK => ?_) AllReadyH.nil
            have hKS := Lib.hid hKK
            clear hKK
            go_simp
            refine (Un.Nm.rrow_any _ 3 3 [c.m, num8 c.n, X] _ ts (by simp [Un.Nm.room, z8]; omega) (by omega)).mono ?_
            rintro e w10 ⟨rfl, hx⟩
            go_wp2_with fail
            refine hKS.out.out _ _ ⟨hHeld.1.below hx, Bt.below hHeld.2 hx⟩ (fun hHeld => ?_)
            replace zA := zA.below hx
            clear hKS KK hx ts
            try simp only [Act.put, List.setIfInBounds_toArray, List.set_cons_zero, List.set_cons_succ]
            refine wpAnyH_ready (rs := [11]) (by kernel_rfl) (by simp) ?_
            refine AllReadyH.cons (o := { dst := some 134, op := Op.call { callee := Callee.value (Operand.func 18), args := #[Operand.tmp 123, Operand.tmp 133], argTypes := #[26, 9] }, type := _, pos := _, after := _, guard := _ }) rfl (fun KK hKK => ?_) AllReadyH.nil
            have hKS := Lib.hid hKK
            clear hKK
            go_simp
            refine (htake _ hHeld.1.b).mono ?_
            rintro e x11 ⟨rfl, hx⟩
            dsimp only [rsv, bad]
            go_wp2_with fail
            refine hKS.out.out _ _ ⟨hHeld.1.below hx, Bt.below hHeld.2 hx⟩ (fun hHeld => ?_)
            replace zA := zA.below hx
            clear hKS KK hx
            try simp only [Act.put, List.setIfInBounds_toArray, List.set_cons_zero, List.set_cons_succ]
            refine wpAnyH_take (i := 12) (oi := { dst := some 122, op := Op.move (Operand.tmp 134), type := _, pos := _, after := _, guard := _ }) (v := ?_) rfl (by kernel_rfl) (by kernel_rfl) (by kernel_rfl) (fun _ _ _ h => h) (Or.inl ⟨by rfl, ?_⟩) hHeld ?_
            rotate_left
            · intro wq hSw
              go_simp
              rfl
            try simp only [Act.put, List.setIfInBounds_toArray, List.set_cons_zero, List.set_cons_succ]
            refine wpAnyH_take (i := 13) (oi := { dst := some 135, op := Op.extract (Operand.tmp 122) 0, type := _, pos := _, after := _, guard := _ }) (v := ?_) rfl (by kernel_rfl) (by kernel_rfl) (by kernel_rfl) (fun _ _ _ h => h) (Or.inl ⟨by rfl, ?_⟩) hHeld ?_
            rotate_left
            · intro wq hSw
              go_simp
              rfl
            try simp only [Act.put, List.setIfInBounds_toArray, List.set_cons_zero, List.set_cons_succ]
            refine wpAnyH_take (i := 14) (oi := { dst := some 136, op := Op.extract (Operand.tmp 122) 1, type := _, pos := _, after := _, guard := _ }) (v := ?_) rfl (by kernel_rfl) (by kernel_rfl) (by kernel_rfl) (fun _ _ _ h => h) (Or.inl ⟨by rfl, ?_⟩) hHeld ?_
            rotate_left
            · intro wq hSw
              go_simp
              rfl
            try simp only [Act.put, List.setIfInBounds_toArray, List.set_cons_zero, List.set_cons_succ]
            refine wpAnyH_take (i := 15) (oi := { dst := some 137, op := Op.extract (Operand.tmp 122) 2, type := _, pos := _, after := _, guard := _ }) (v := ?_) rfl (by kernel_rfl) (by kernel_rfl) (by kernel_rfl) (fun _ _ _ h => h) (Or.inl ⟨by rfl, ?_⟩) hHeld ?_
            rotate_left
            · intro wq hSw
              go_simp
              rfl
            try simp only [Act.put, List.setIfInBounds_toArray, List.set_cons_zero, List.set_cons_succ]
            refine wpAnyH_ready (rs := [17]) (by kernel_rfl) (by simp) ?_
            refine AllReadyH.cons (o := { dst := none, op := Op.store 26 (Operand.tmp 17) (Operand.tmp 135), type := _, pos := _, after := _, guard := _ }) rfl (fun KK hKK => ?_) AllReadyH.nil
            have hKS := Lib.hid hKK
            clear hKK
            refine wst26 (d := zCh) (c := zCh) zCh_ok.k rfl rfl rfl zA ?_
            have bR := below_row hHeld.1.b (show w.heap.size ≤ _ from Nat.le_trans (Nat.le_add_right _ 2) gA) (chv zCh)
            refine hKS.out.out _ _ ⟨⟨hHeld.1.k.rowOther _ (by omega), hHeld.1.p.rowOther _ _ (by omega), (World.cell?_of_block (heap_setRow _ _ _ _ (by show g ≠ _; omega))).trans hHeld.1.c0, (World.cell?_of_block (heap_setRow _ _ _ _ (by show g ≠ _; omega))).trans hHeld.1.c1, (World.cell?_of_block (heap_setRow _ _ _ _ (by show g ≠ _; omega))).trans hHeld.1.c2, bR⟩, Bt.rowOther hHeld.2 (by omega) _⟩ (fun hHeld => ?_)
            clear hKS KK zA
            try simp only [Act.put, List.setIfInBounds_toArray, List.set_cons_zero, List.set_cons_succ]
            refine wpAnyH_take (i := 18) (oi := { dst := some 18, op := Op.assign (Operand.tmp 136), type := _, pos := _, after := _, guard := _ }) (v := ?_) rfl (by kernel_rfl) (by kernel_rfl) (by kernel_rfl) (fun _ _ _ h => h) (Or.inl ⟨by rfl, ?_⟩) hHeld ?_
            rotate_left
            · intro wq hSw
              go_simp
              rfl
            try simp only [Act.put, List.setIfInBounds_toArray, List.set_cons_zero, List.set_cons_succ]
            refine wpAnyH_take (i := 19) (oi := { dst := some 19, op := Op.assign (Operand.tmp 137), type := _, pos := _, after := _, guard := _ }) (v := ?_) rfl (by kernel_rfl) (by kernel_rfl) (by kernel_rfl) (fun _ _ _ h => h) (Or.inl ⟨by rfl, ?_⟩) hHeld ?_
            rotate_left
            · intro wq hSw
              go_simp
              rfl
            try simp only [Act.put, List.setIfInBounds_toArray, List.set_cons_zero, List.set_cons_succ]
            refine wpAnyH_done (by kernel_rfl) ?_ _
            go_wp2_with fail
            refine (hfx _ hHeld.1.b).mono ?_
            rintro e w9 ⟨rfl, hx⟩
            have b9 := hHeld.1.b.trans (hx.mono hHeld.1.b.size)
            go_wp2_with fail
            go_ret
            exact ⟨rfl, b9⟩
        refine AllReadyH.cons (o := { dst := some 17, op := Op.alloc 26, type := _, pos := _, after := _, guard := _ }) rfl (fun KK hKK => ?_) AllReadyH.nil
        · have hKS := Lib.hid hKK
          clear hKK
          go_simp
          have hx := grow Y2 (Obj.cells (chv zCh) 26)
          have gA : w.heap.size + 2 ≤ Y2.heap.size := hHeld.1.p.lt
          have gB2 := Bt.lt hHeld.2
          have gg2 : g < Y2.heap.size := World.block_lt_of_cell? _ _ hHeld.1.c0
          refine hKS.out.out _ (Y2.alloc (Obj.cells (chv zCh) 26)) ⟨hHeld.1.below hx, Bt.below hHeld.2 hx⟩ (fun hHeld => ?_)
          have zA := Cb.new Y2 zCh zCh_ok.k
          clear hKS KK hx
          generalize Y2.alloc (Obj.cells (chv zCh) 26) = B16 at *
          try simp only [Act.put, List.setIfInBounds_toArray, List.set_cons_zero, List.set_cons_succ]
          refine wpAnyH_ready (rs := [9]) (by kernel_rfl) (by simp) ?_
          refine AllReadyH.cons (o := { dst := some 132, op := Op.buildSlice 36 3 #[(0, Operand.tmp 126), (1, Operand.tmp 129), (2, Operand.tmp 131)], type := _, pos := _, after := _, guard := _ }) rfl (fun KK hKK => ?_) AllReadyH.nil
          have hKS := Lib.hid hKK
          clear hKK
          go_simp
          have hx := grow B16 (Obj.cells #[.string c.m, .string (num8 c.n), .string X] 9)
          refine hKS.out.out _ (B16.alloc (Obj.cells #[.string c.m, .string (num8 c.n), .string X] 9)) ⟨hHeld.1.below hx, Bt.below hHeld.2 hx⟩ (fun hHeld => ?_)
          replace zA := zA.below hx
          have ts := ts_three B16 c.m (num8 c.n) X
          clear hKS KK hx
          generalize B16.alloc (Obj.cells #[.string c.m, .string (num8 c.n), .string X] 9) = A9 at *
          try simp only [Act.put, List.setIfInBounds_toArray, List.set_cons_zero, List.set_cons_succ]
          refine wpAnyH_ready (rs := [10]) (by kernel_rfl) (by simp) ?_
          refine AllReadyH.cons (o := { dst := some 133, op := Op.call { callee := Callee.value (Operand.func 25), args := #[Operand.tmp 132], argTypes := #[36] }, type := _, pos := _, after := _, guard := _ }) rfl (fun KK hKK => ?_) AllReadyH.nil
          have hKS := Lib.hid hKK
          clear hKK
          go_simp
          refine (Un.Nm.rrow_any _ 3 3 [c.m, num8 c.n, X] _ ts (by simp [Un.Nm.room, z8]; omega) (by omega)).mono ?_
          rintro e w10 ⟨rfl, hx⟩
          go_wp2_with fail
          refine hKS.out.out _ _ ⟨hHeld.1.below hx, Bt.below hHeld.2 hx⟩ (fun hHeld => ?_)
          replace zA := zA.below hx
          clear hKS KK hx ts
          try simp only [Act.put, List.setIfInBounds_toArray, List.set_cons_zero, List.set_cons_succ]
          refine wpAnyH_ready (rs := [11]) (by kernel_rfl) (by simp) ?_
          refine AllReadyH.cons (o := { dst := some 134, op := Op.call { callee := Callee.value (Operand.func 18), args := #[Operand.tmp 123, Operand.tmp 133], argTypes := #[26, 9] }, type := _, pos := _, after := _, guard := _ }) rfl (fun KK hKK => ?_) AllReadyH.nil
          have hKS := Lib.hid hKK
          clear hKK
          go_simp
          refine (htake _ hHeld.1.b).mono ?_
          rintro e x11 ⟨rfl, hx⟩
          dsimp only [rsv, bad]
          go_wp2_with fail
          refine hKS.out.out _ _ ⟨hHeld.1.below hx, Bt.below hHeld.2 hx⟩ (fun hHeld => ?_)
          replace zA := zA.below hx
          clear hKS KK hx
          try simp only [Act.put, List.setIfInBounds_toArray, List.set_cons_zero, List.set_cons_succ]
          refine wpAnyH_take (i := 12) (oi := { dst := some 122, op := Op.move (Operand.tmp 134), type := _, pos := _, after := _, guard := _ }) (v := ?_) rfl (by kernel_rfl) (by kernel_rfl) (by kernel_rfl) (fun _ _ _ h => h) (Or.inl ⟨by rfl, ?_⟩) hHeld ?_
          rotate_left
          · intro wq hSw
            go_simp
            rfl
          try simp only [Act.put, List.setIfInBounds_toArray, List.set_cons_zero, List.set_cons_succ]
          refine wpAnyH_take (i := 13) (oi := { dst := some 135, op := Op.extract (Operand.tmp 122) 0, type := _, pos := _, after := _, guard := _ }) (v := ?_) rfl (by kernel_rfl) (by kernel_rfl) (by kernel_rfl) (fun _ _ _ h => h) (Or.inl ⟨by rfl, ?_⟩) hHeld ?_
          rotate_left
          · intro wq hSw
            go_simp
            rfl
          try simp only [Act.put, List.setIfInBounds_toArray, List.set_cons_zero, List.set_cons_succ]
          refine wpAnyH_take (i := 14) (oi := { dst := some 136, op := Op.extract (Operand.tmp 122) 1, type := _, pos := _, after := _, guard := _ }) (v := ?_) rfl (by kernel_rfl) (by kernel_rfl) (by kernel_rfl) (fun _ _ _ h => h) (Or.inl ⟨by rfl, ?_⟩) hHeld ?_
          rotate_left
          · intro wq hSw
            go_simp
            rfl
          try simp only [Act.put, List.setIfInBounds_toArray, List.set_cons_zero, List.set_cons_succ]
          refine wpAnyH_take (i := 15) (oi := { dst := some 137, op := Op.extract (Operand.tmp 122) 2, type := _, pos := _, after := _, guard := _ }) (v := ?_) rfl (by kernel_rfl) (by kernel_rfl) (by kernel_rfl) (fun _ _ _ h => h) (Or.inl ⟨by rfl, ?_⟩) hHeld ?_
          rotate_left
          · intro wq hSw
            go_simp
            rfl
          try simp only [Act.put, List.setIfInBounds_toArray, List.set_cons_zero, List.set_cons_succ]
          refine wpAnyH_ready (rs := [17]) (by kernel_rfl) (by simp) ?_
          refine AllReadyH.cons (o := { dst := none, op := Op.store 26 (Operand.tmp 17) (Operand.tmp 135), type := _, pos := _, after := _, guard := _ }) rfl (fun KK hKK => ?_) AllReadyH.nil
          have hKS := Lib.hid hKK
          clear hKK
          refine wst26 (d := zCh) (c := zCh) zCh_ok.k rfl rfl rfl zA ?_
          have bR := below_row hHeld.1.b (show w.heap.size ≤ _ from Nat.le_trans (Nat.le_add_right _ 2) gA) (chv zCh)
          refine hKS.out.out _ _ ⟨⟨hHeld.1.k.rowOther _ (by omega), hHeld.1.p.rowOther _ _ (by omega), (World.cell?_of_block (heap_setRow _ _ _ _ (by show g ≠ _; omega))).trans hHeld.1.c0, (World.cell?_of_block (heap_setRow _ _ _ _ (by show g ≠ _; omega))).trans hHeld.1.c1, (World.cell?_of_block (heap_setRow _ _ _ _ (by show g ≠ _; omega))).trans hHeld.1.c2, bR⟩, Bt.rowOther hHeld.2 (by omega) _⟩ (fun hHeld => ?_)
          clear hKS KK zA
          try simp only [Act.put, List.setIfInBounds_toArray, List.set_cons_zero, List.set_cons_succ]
          refine wpAnyH_take (i := 18) (oi := { dst := some 18, op := Op.assign (Operand.tmp 136), type := _, pos := _, after := _, guard := _ }) (v := ?_) rfl (by kernel_rfl) (by kernel_rfl) (by kernel_rfl) (fun _ _ _ h => h) (Or.inl ⟨by rfl, ?_⟩) hHeld ?_
          rotate_left
          · intro wq hSw
            go_simp
            rfl
          try simp only [Act.put, List.setIfInBounds_toArray, List.set_cons_zero, List.set_cons_succ]
          refine wpAnyH_take (i := 19) (oi := { dst := some 19, op := Op.assign (Operand.tmp 137), type := _, pos := _, after := _, guard := _ }) (v := ?_) rfl (by kernel_rfl) (by kernel_rfl) (by kernel_rfl) (fun _ _ _ h => h) (Or.inl ⟨by rfl, ?_⟩) hHeld ?_
          rotate_left
          · intro wq hSw
            go_simp
            rfl
          try simp only [Act.put, List.setIfInBounds_toArray, List.set_cons_zero, List.set_cons_succ]
          refine wpAnyH_done (by kernel_rfl) ?_ _
          go_wp2_with fail
          refine (hfx _ hHeld.1.b).mono ?_
          rintro e w9 ⟨rfl, hx⟩
          have b9 := hHeld.1.b.trans (hx.mono hHeld.1.b.size)
          go_wp2_with fail
          go_ret
          exact ⟨rfl, b9⟩

set_option maxRecDepth 100000 in
theorem lifted (os : Os) (started : os.Started) (H : Type) (enc : TypeId × Value → H) :
    ReturnsInHanded {} Tryd.checked os 7 .any (fun w args => (Rows.sessionBentSpec.pre enc Tryd.prog Tryd.f7 [] false w args ∧ laidMetH Tryd.prog lay2 w) ∧ sizedMet enc Tryd.prog Tryd.f7 (OpenSpec.ofChange Rows.sessionBentSpec) false w args)
      (Rows.sessionBentSpec.post enc Tryd.prog Tryd.f7 false true false false) := by
  refine returnsInHanded_of_change_and (C := Tryd.checked) (X := fun w _ => laidMetH Tryd.prog lay2 w) (fun _ _ _ hh h => h.of_heap hh) own started (by kernel_rfl) Tryd.func7
    (ChangeSpec.witness_shaped (enc := enc) (C := Tryd.checked) (os := os) (X := fun w _ => laidMetH Tryd.prog lay2 w) false (World.doorLaid Tryd.prog 400 os) #[.agg (#[.string ByteArray.empty, .int .u64 0] ++ Array.replicate 32 (.int .u8 0)), .string ByteArray.empty, .agg #[.int .u16 0, .int .u16 0]] 8 rfl (World.shaped_of_RefB (by kernel_rfl) (by kernel_rfl)) (by kernel_rfl) (by kernel_rfl) (by kernel_rfl) (door_met os _)) ?_
  intro W base args ds gs before hval0 hW _ _ hL _
  have hval : ∀ (j : Nat) t v, Tryd.f7.params[j]? = some t → args[j]? = some v → Value.okWide Tryd.prog W .any base t v := hval0
  have hW' := hW
  obtain ⟨p, q, hA0, hV, rfl, hfz, hnd⟩ := hW
  have hA : DataW.TrodAll enc Tryd.prog W 0 (fun _ => true) true Tryd.f7.params.toList args.toList ds p := hA0
  rw [Tryd.params7] at hA hval
  obtain ⟨v0, vs0, d0, ds0, p0, q0, hargs, rfl, rfl, h0, r0⟩ := trodAll_cons hA
  obtain ⟨v1, vs1, d1, ds1, p1, q1, rfl, rfl, rfl, h1, r1⟩ := trodAll_cons r0
  obtain ⟨v2, vs2, d2, ds2, p2, q2, rfl, rfl, rfl, h2, r2⟩ := trodAll_cons r1
  obtain ⟨rfl, rfl, rfl⟩ := trodAll_nil r2
  obtain rfl : args = #[v0, v1, v2] := by cases args; simp_all
  obtain ⟨rfl, rfl⟩ := trodVars_none hV
  obtain ⟨K0, rfl, b0⟩ := okChan (hval 0 26 v0 rfl rfl)
  have k0 := h0
  have lt0 : ∀ x ∈ p0, x.block < W.heap.size := by obtain ⟨m, hm⟩ := k0; exact DataW.trod_lt m _ _ _ hm
  obtain ⟨a1, rfl, rfl, rfl, w1⟩ := open_string Tryd.underlying9 (hval 1 9 v1 rfl rfl) h1
  obtain ⟨K2, rfl, b2⟩ := okP2 (hval 2 42 v2 rfl rfl)
  have k2 := h2
  have lt2 : ∀ x ∈ p2, x.block < W.heap.size := by obtain ⟨m, hm⟩ := k2; exact DataW.trod_lt m _ _ _ hm
  have hT := of_laid hL
  clear hA0 hval0
  refine (walk K0 a1 K2 b0 (by unfold maxLen at w1; exact w1) b2 W hT ).mono fun e W' ⟨he, bel⟩ => ?_
  subst he
  exact ⟨_, rfl, _, _, _, [], _, [], hW', trodAll_mk1 (shut_bool Tryd.underlying4 _), (trodAll_cons_mk (Below.trod laidOut (by kernel_rfl) (of_decide_eq_true (by kernel_rfl)) k0 bel lt0) (trodAll_cons_mk (shut_string Tryd.underlying9 w1) (trodAll_cons_mk (Below.trod laidOut (by kernel_rfl) (of_decide_eq_true (by kernel_rfl)) k2 bel lt2) trodAll_mk0))), rfl, bel.frame _, fun h => by cases h⟩

theorem bare : Rows.SessionBentSaid :=
  OpenClaim.holds_of_wide 7 Tryd.f7 rfl rfl rfl rfl rfl rfl rfl ⟨rfl, rfl, rfl, rfl, rfl⟩ rfl rfl rfl rfl rfl (by kernel_rfl) Tryd.func7 (by kernel_rfl)
    (of_decide_eq_true (by kernel_rfl)) (by unfold Func.isWrapper; first | (rw [if_pos (by decide +kernel)]; kernel_rfl) | (rw [if_neg (by decide +kernel)]; exact ⟨rfl, rfl⟩))
    (fun os started H enc _ => lifted os started H enc)

/-- the statement -/
theorem proved : Rows.SessionBentCardSaid :=
  Claim7.holds_tied_plain_at .later [] [.data, .data] true Rows.sessionBentCard.stood.harness false
    bare (fun _ h => by cases h) (by kernel_rfl) (fun _ h => by cases h) sessionBent_row_tie rfl ⟨rfl, rfl⟩ (by kernel_rfl) rfl
    (fun f fn hf hfn => by
      obtain rfl : f = 7 := Option.some.inj ((show Tryd.prog.funcNamed "hibernacle/hibernaclelaw43.SessionBent" = some 7 by kernel_rfl).symm.trans hf) |>.symm
      obtain rfl : fn = Tryd.f7 := (Option.some.inj (Tryd.func7.symm.trans hfn)).symm
      exact ⟨by kernel_rfl, fun j t ht => by
        rw [Tryd.params7] at ht
        have hm : t ∈ [26, 9, 42] := by simpa using Array.mem_of_getElem? ht
        have hall : ([26, 9, 42].all fun u => !Tryd.prog.wantsStandIn u) = true := by kernel_rfl
        exact (show Tryd.prog.wantsStandIn t = false by simpa using List.all_eq_true.1 hall t hm)⟩)
    (by kernel_rfl)
end Go.Proofs.YtaoaebdjinlcnaaDoor.sessionBent
