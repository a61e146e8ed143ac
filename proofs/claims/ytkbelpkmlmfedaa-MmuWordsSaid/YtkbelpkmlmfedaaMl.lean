/-
  THE WALKS of the code's Copy and Lay.
-/
import Derived.Test.YtkbelpkmlmfedaaMp
namespace Go.Proofs.Ytkbelpkmlmfedaa
set_option linter.unusedVariables false
set_option maxRecDepth 100000
set_option linter.unusedSimpArgs false
open Go.RowKit
namespace Mo
open _root_.Go.Proofs.Ytkbelpkmlmfedaa.Nm _root_.Go.Proofs.Ytkbelpkmlmfedaa.Xe
set_option maxHeartbeats 1000000 in
theorem copy_any (A : Option Addr) (len cap : Nat) (l : List ByteArray) (s : Mm.Sp) (hs : SpOk s) (q : Nat) (n : Int) (w : World) (hl : Tz w A len cap l) (hq : q < 4294967296) (h0 : -9223372036854775808 ≤ n) (h1 : n ≤ 9223372036854775807) :
    Calls Try.prog 38 #[.slice A len cap, .agg (sc s), .int .u32 (q : Nat), .int .i64 n] w fun e w' => CopyIs (Mm.copyM (fs l) s q n) e ∧ Below w.heap.size w w' := by
  obtain ⟨V2, hV2⟩ : ∃ V2, V2 = (w.alloc (Obj.cells #[.slice A len cap] 53)).alloc (Obj.cells (sc s) 57) := ⟨_, rfl⟩
  have hz : V2.heap.size = w.heap.size + 1 + 1 := by rw [hV2]; simp
  have hb2 : Below w.heap.size w V2 := by rw [hV2]; exact ((Below.refl _ w).alloc (Nat.le_refl _) _).alloc (by simp) _
  have o1 : Own V2 w.heap.size 53 #[.slice A len cap] := by rw [hV2]; exact (Own.new w 53 _).alloc _
  have o2 : Own V2 (w.heap.size + 1) 57 (sc s) := by
    have := Own.new (w.alloc (Obj.cells #[.slice A len cap] 53)) 57 (sc s)
    rw [hV2]
    rwa [show (w.alloc (Obj.cells #[.slice A len cap] 53)).heap.size = w.heap.size + 1 from by simp] at this
  have o3 := o2.alloc (Obj.cells #[.pointer none, .slice none 0 0] 107)
  have c3 := (o1.alloc (Obj.cells #[.pointer none, .slice none 0 0] 107)).cell 0
  have bk := Bk.new V2
  have hb3 := hb2.trans ((grow V2 (Obj.cells #[.pointer none, .slice none 0 0] 107)).mono hb2.size)
  have hp := pieces68 w (w.heap.size + 1 + 1) w.heap.size A len cap l s hs q n (V2.alloc (Obj.cells #[.pointer none, .slice none 0 0] 107)) hl hq h0 h1 (by omega) (by omega) (by rw [hz] at bk; exact bk) c3 hb3 (by have := (Own.new V2 107 #[.pointer none, .slice none 0 0]).lt; omega)
  rw [hV2] at o3 hp c3
  clear bk hb3 o1 o2 hb2 hz hV2
  unfold CopyIs
  go_enter Try.func38, Try.ntmps38
  go_wp2_with (refine ls rfl rfl rfl hs o3 ?_)
  refine hp.mono ?_
  rintro e w4 ⟨rfl, h2, h3, h4⟩
  clear hp o3 c3
  cases hr : Mm.copyM (fs l) s q n with
  | none =>
    simp only [Option.isSome_none]
    clear h2
    go_wp2_with fail
    go_ret2
    exact ⟨by rw [hr]; rfl, h3⟩
  | some L =>
    have hst := fstringK (w.heap.size + 1 + 1) (w.heap.size + 1 + 1) L w4 (h2 L hr) (Nat.le_of_lt h4)
    simp only [Option.isSome_some]
    clear h2
    go_wp2_with fail
    refine hst.mono ?_
    rintro e w5 ⟨rfl, h5⟩
    clear hst
    go_wp2_with fail
    go_ret2
    exact ⟨by rw [hr]; rfl, h3.trans (h5.mono (by omega))⟩
theorem Own.other {w : World} {g : Nat} {t : TypeId} {cs : Array Value} (h : Own w g t cs) {a : Addr} (hne : a.block ≠ g) (v : Value) : Own (w.setCell a v) g t cs :=
  (Below.heap_setCell w a v g (fun e => hne e.symm)).trans h
theorem RS.other {w : World} {B n cap : Nat} {A : Option Addr} {l : List ByteArray} (h : RS w B A n cap l) {a : Addr} (hne : (Value.slice A n cap).ownBlock ≠ some a.block) (v : Value) : RS (w.setCell a v) B A n cap l :=
  ⟨h.1, ownsRow_setCell_other h.2 hne v⟩
theorem RS.ne {w : World} {B g n cap h : Nat} {l : List ByteArray} {t : TypeId} {cs : Array Value} (hr : RS w B (some ⟨g, 0, none⟩) n cap l) (ho : Own w h t cs) (ht : t ≠ 9) : g ≠ h := by
  rintro rfl
  rcases hr.2.2 with ⟨e, _⟩ | ⟨g', c, cur, e, _, hg, _⟩
  · cases e
  · cases e
    unfold Own at ho
    rw [hg] at ho
    cases ho
    exact ht rfl
/-- where Lay's row, its boxes of the row, of the data and of the space lie -/
structure Ls (W0 : World) (B g10 g7 h : Nat) (A' : Option Addr) (len c : Nat) (s : Mm.Sp) (Lr : List ByteArray) (D : ByteArray) (wr : World) : Prop where
  r : RS wr B A' len c Lr
  o : Own wr g10 53 #[.slice A' len c]
  d : Own wr g7 9 #[.string D]
  sp : Own wr h 57 (sc s)
  w0 : Below W0.heap.size W0 wr
theorem Ls.below {W0 : World} {B g10 g7 h : Nat} {A' : Option Addr} {len c : Nat} {s : Mm.Sp} {Lr : List ByteArray} {D : ByteArray} {wr w1 : World} (k : Ls W0 B g10 g7 h A' len c s Lr D wr) (hx : Below wr.heap.size wr w1) : Ls W0 B g10 g7 h A' len c s Lr D w1 :=
  ⟨k.r.below hx, (hx.block _ k.o.lt).trans k.o, (hx.block _ k.d.lt).trans k.d, (hx.block _ k.sp.lt).trans k.sp, k.w0.trans (hx.mono k.w0.size)⟩
theorem Ls.dr {W0 : World} {B g10 g7 h : Nat} {A' : Option Addr} {len c : Nat} {s : Mm.Sp} {Lr : List ByteArray} {D : ByteArray} {wr w1 : World} (k : Ls W0 B g10 g7 h A' len c s Lr D wr) (hx : Dr wr w1) : Ls W0 B g10 g7 h A' len c s Lr D w1 := by
  obtain ⟨n, rfl⟩ := hx
  exact ⟨k.r.dr ⟨n, rfl⟩, k.o, k.d, k.sp, below_drewN k.w0 n⟩
theorem Ls.drew {W0 : World} {B g10 g7 h : Nat} {A' : Option Addr} {len c : Nat} {s : Mm.Sp} {Lr : List ByteArray} {D : ByteArray} {wr : World} (k : Ls W0 B g10 g7 h A' len c s Lr D wr) : Ls W0 B g10 g7 h A' len c s Lr D wr.drew := k.dr ⟨1, rfl⟩
theorem Ls.row {W0 : World} {B g10 g7 h g : Nat} {len c : Nat} {s : Mm.Sp} {Lr : List ByteArray} {D : ByteArray} {wr : World} (k : Ls W0 B g10 g7 h (some ⟨g, 0, none⟩) len c s Lr D wr) (h7 : g7 < B) (hW : W0.heap.size ≤ g7) (i : Nat) (y : ByteArray) :
    Ls W0 B g10 g7 h (some ⟨g, 0, none⟩) len c s (Lr.set i y) D (wr.setCell ⟨g, i, none⟩ (.string y)) := by
  have hB := (RS.lt k.r).1
  exact ⟨RS.put k.r i y, Own.other k.o (RS.ne k.r k.o (by decide)) _, Own.other k.d (show g ≠ g7 by omega) _, Own.other k.sp (RS.ne k.r k.sp (by decide)) _, k.w0.setCell (p := ⟨g, i, none⟩) (show W0.heap.size ≤ g by omega) _⟩
theorem Ls.data {W0 : World} {B g10 g7 h g : Nat} {len c : Nat} {s : Mm.Sp} {Lr : List ByteArray} {D : ByteArray} {wr : World} (k : Ls W0 B g10 g7 h (some ⟨g, 0, none⟩) len c s Lr D wr) (h7 : g7 < B) (hW : W0.heap.size ≤ g7) (y : ByteArray) :
    Ls W0 B g10 g7 h (some ⟨g, 0, none⟩) len c s Lr y (wr.setCell ⟨g7, 0, none⟩ (.string y)) := by
  have hB := (RS.lt k.r).1
  have n1 : g7 ≠ g10 := fun e => by
    have a := k.d
    have b := k.o
    unfold Own at a b
    rw [e, b] at a
    injection a with a
    injection a with _ a2 _
    exact absurd a2 (by decide)
  have n2 : g7 ≠ h := fun e => by
    have a := k.d
    have b := k.sp
    unfold Own at a b
    rw [e, b] at a
    injection a with a
    injection a with _ a2 _
    exact absurd a2 (by decide)
  refine ⟨RS.other k.r (by show some g ≠ some g7; intro e; cases e; omega) _, Own.other k.o n1 _, ?_, Own.other k.sp n2 _, k.w0.setCell (p := ⟨g7, 0, none⟩) hW _⟩
  have := Own.set k.d 0 (.string y)
  simpa using this
set_option maxHeartbeats 1000000 in
theorem lay1_any (W0 : World) (B g10 g7 h g : Nat) (len c : Nat) (s : Mm.Sp) (Lr : List ByteArray) (D : ByteArray) (k p m : Nat) (w : World) (hR : Ls W0 B g10 g7 h (some ⟨g, 0, none⟩) len c s Lr D w) (h7 : g7 < B) (hW : W0.heap.size ≤ g7)
    (hk : k < len) (hl : len ≤ 100000) (hz : p + m ≤ (nth Lr k).size) (hz1 : (nth Lr k).size ≤ 100000) (hm : m ≤ D.size) (hd : D.size ≤ 100000) :
    Calls Try.prog 71 #[.int .i64 k, .int .i64 p, .int .i64 m, .pointer (some ⟨g10, 0, none⟩), .pointer (some ⟨g7, 0, none⟩)] w fun e w' => e = .returned (.tuple #[]) ∧ Ls W0 B g10 g7 h (some ⟨g, 0, none⟩) len c s (Lr.set k (ofB (Mm.over (toL (nth Lr k)) p ((toL D).take m)))) (D.extract m D.size) w' := by
  have hov := fun wr => over_any (nth Lr k) (D.extract 0 m) p wr (by rw [ByteArray.size_extract]; omega) hz1
  rw [show toL (D.extract 0 m) = (toL D).take m from by rw [toL_extract, List.drop_zero, Nat.sub_zero]] at hov
  have i1 : (k : Int) < (len : Int) := by omega
  have i2 : (m : Int) ≤ (D.size : Int) := by omega
  go_enter Try.func71, Try.ntmps71
  go_wp2_with fail
  replace hR := hR.drew
  refine wp_region_held_drew (S := fun w' => Own w' g10 53 #[.slice (some ⟨g, 0, none⟩) len c] ∧ Own w' g7 9 #[.string D]) (by kernel_rfl) ⟨hR.o, hR.d⟩ (fun hHeld => ?_)
  generalize w.drew = W2 at *
  refine wpAnyH_take (i := 0) (oi := { dst := some 8, op := Op.load 53 (Operand.tmp 3), type := _, pos := _, after := _, guard := _ }) (v := ?_) rfl (by kernel_rfl) (by kernel_rfl) (by kernel_rfl) (fun _ _ _ h => h) (Or.inl ⟨by rfl, ?_⟩) hHeld ?_
  rotate_left
  · intro wq hSw
    have c10 := hSw.1.cell 0
    go_simp
    rfl
  try simp only [Act.put, List.setIfInBounds_toArray, List.set_cons_zero, List.set_cons_succ]
  refine wpAnyH_take (i := 1) (oi := { dst := some 9, op := Op.move (Operand.tmp 0), type := _, pos := _, after := _, guard := _ }) (v := ?_) rfl (by kernel_rfl) (by kernel_rfl) (by kernel_rfl) (fun _ _ _ h => h) (Or.inl ⟨by rfl, ?_⟩) hHeld ?_
  rotate_left
  · intro wq hSw
    go_simp
    rfl
  try simp only [Act.put, List.setIfInBounds_toArray, List.set_cons_zero, List.set_cons_succ]
  refine wpAnyH_take (i := 2) (oi := { dst := some 10, op := Op.load 53 (Operand.tmp 3), type := _, pos := _, after := _, guard := _ }) (v := ?_) rfl (by kernel_rfl) (by kernel_rfl) (by kernel_rfl) (fun _ _ _ h => h) (Or.inl ⟨by rfl, ?_⟩) hHeld ?_
  rotate_left
  · intro wq hSw
    have c10 := hSw.1.cell 0
    go_simp
    rfl
  try simp only [Act.put, List.setIfInBounds_toArray, List.set_cons_zero, List.set_cons_succ]
  refine wpAnyH_take (i := 3) (oi := { dst := some 11, op := Op.move (Operand.tmp 0), type := _, pos := _, after := _, guard := _ }) (v := ?_) rfl (by kernel_rfl) (by kernel_rfl) (by kernel_rfl) (fun _ _ _ h => h) (Or.inl ⟨by rfl, ?_⟩) hHeld ?_
  rotate_left
  · intro wq hSw
    go_simp
    rfl
  try simp only [Act.put, List.setIfInBounds_toArray, List.set_cons_zero, List.set_cons_succ]
  refine wpAnyH_take (i := 4) (oi := { dst := some 12, op := Op.indexAddr 53 (Operand.tmp 10) (Operand.tmp 11), type := _, pos := _, after := _, guard := _ }) (v := ?_) rfl (by kernel_rfl) (by kernel_rfl) (by kernel_rfl) (fun _ _ _ h => h) (Or.inl ⟨by rfl, ?_⟩) hHeld ?_
  rotate_left
  · intro wq hSw
    go_simp
    rfl
  try simp only [Act.put, List.setIfInBounds_toArray, List.set_cons_zero, List.set_cons_succ]
  refine wpAnyH_take (i := 6) (oi := { dst := some 14, op := Op.move (Operand.tmp 1), type := _, pos := _, after := _, guard := _ }) (v := ?_) rfl (by kernel_rfl) (by kernel_rfl) (by kernel_rfl) (fun _ _ _ h => h) (Or.inl ⟨by rfl, ?_⟩) hHeld ?_
  rotate_left
  · intro wq hSw
    go_simp
    rfl
  try simp only [Act.put, List.setIfInBounds_toArray, List.set_cons_zero, List.set_cons_succ]
  refine wpAnyH_take (i := 7) (oi := { dst := some 15, op := Op.load 9 (Operand.tmp 4), type := _, pos := _, after := _, guard := _ }) (v := ?_) rfl (by kernel_rfl) (by kernel_rfl) (by kernel_rfl) (fun _ _ _ h => h) (Or.inl ⟨by rfl, ?_⟩) hHeld ?_
  rotate_left
  · intro wq hSw
    have c7 := hSw.2.cell 0
    go_simp
    rfl
  try simp only [Act.put, List.setIfInBounds_toArray, List.set_cons_zero, List.set_cons_succ]
  refine wpAnyH_take (i := 8) (oi := { dst := some 16, op := Op.move (Operand.tmp 2), type := _, pos := _, after := _, guard := _ }) (v := ?_) rfl (by kernel_rfl) (by kernel_rfl) (by kernel_rfl) (fun _ _ _ h => h) (Or.inl ⟨by rfl, ?_⟩) hHeld ?_
  rotate_left
  · intro wq hSw
    go_simp
    rfl
  try simp only [Act.put, List.setIfInBounds_toArray, List.set_cons_zero, List.set_cons_succ]
  refine wpAnyH_take (i := 9) (oi := { dst := some 17, op := Op.slice 9 (Operand.tmp 15) none (some (Operand.tmp 16)) none, type := _, pos := _, after := _, guard := _ }) (v := ?_) rfl (by kernel_rfl) (by kernel_rfl) (by kernel_rfl) (fun _ _ _ h => h) (Or.inl ⟨by rfl, ?_⟩) hHeld ?_
  rotate_left
  · intro wq hSw
    go_simp
    rfl
  try simp only [Act.put, List.setIfInBounds_toArray, List.set_cons_zero, List.set_cons_succ]
  refine wpAnyH_ready (rs := [5]) (by kernel_rfl) (by simp) ?_
  refine AllReadyH.cons (o := { dst := some 13, op := Op.load 9 (Operand.tmp 12), type := _, pos := _, after := _, guard := _ }) rfl (fun KK hKK => ?_) AllReadyH.nil
  have hKS := Lib.hid hKK
  clear hKK
  have ck := RS.cell hR.r hk
  go_simp
  refine hKS.out.out _ _ ⟨hR.o, hR.d⟩ (fun hHeld => ?_)
  clear hKS KK ck
  try simp only [Act.put, List.setIfInBounds_toArray, List.set_cons_zero, List.set_cons_succ]
  refine wpAnyH_ready (rs := [10]) (by kernel_rfl) (by simp) ?_
  refine AllReadyH.cons (o := { dst := some 18, op := Op.call { callee := Callee.value (Operand.func 66), args := #[Operand.tmp 13, Operand.tmp 14, Operand.tmp 17], argTypes := #[9, 3, 9] }, type := _, pos := _, after := _, guard := _ }) rfl (fun KK hKK => ?_) AllReadyH.nil
  have hKS := Lib.hid hKK
  clear hKK
  go_simp
  refine (hov _).mono ?_
  rintro e w10 ⟨rfl, hx⟩
  go_wp2_with fail
  replace hR := hR.dr hx
  refine hKS.out.out _ _ ⟨hR.o, hR.d⟩ (fun hHeld => ?_)
  clear hKS KK hx
  try simp only [Act.put, List.setIfInBounds_toArray, List.set_cons_zero, List.set_cons_succ]
  refine wpAnyH_take (i := 11) (oi := { dst := some 19, op := Op.indexAddr 53 (Operand.tmp 8) (Operand.tmp 9), type := _, pos := _, after := _, guard := _ }) (v := ?_) rfl (by kernel_rfl) (by kernel_rfl) (by kernel_rfl) (fun _ _ _ h => h) (Or.inl ⟨by rfl, ?_⟩) hHeld ?_
  rotate_left
  · intro wq hSw
    go_simp
    rfl
  try simp only [Act.put, List.setIfInBounds_toArray, List.set_cons_zero, List.set_cons_succ]
  refine wpAnyH_ready (rs := [12]) (by kernel_rfl) (by simp) ?_
  refine AllReadyH.cons (o := { dst := none, op := Op.store 9 (Operand.tmp 19) (Operand.tmp 18), type := _, pos := _, after := _, guard := _ }) rfl (fun KK hKK => ?_) AllReadyH.nil
  have hKS := Lib.hid hKK
  clear hKK
  have f0 := RS.frozen hR.r k
  have c0 := RS.cell hR.r hk
  go_simp
  have hR := hR.row h7 hW k (ofB (Mm.over (toL (nth Lr k)) p ((toL D).take m)))
  refine hKS.out.out _ _ ⟨hR.o, hR.d⟩ (fun hHeld => ?_)
  clear hKS KK f0 c0
  generalize World.setCell w10 ⟨g, k, none⟩ (.string (ofB (Mm.over (toL (nth Lr k)) p ((toL D).take m)))) = v12 at *
  try simp only [Act.put, List.setIfInBounds_toArray, List.set_cons_zero, List.set_cons_succ]
  refine wpAnyH_done (by kernel_rfl) ?_ _
  have c7 := hR.d.cell 0
  have f7 := hR.d.frozen 0
  have HD := Lib.hid (hR.data h7 hW (D.extract m D.size))
  clear hR hov hHeld
  go_wp2_with fail
  go_end0
  exact ⟨rfl, HD.out⟩
theorem shape_there {F G : Mm.Fr} (h : Mm.shape F G) (f : Int) : Mm.there G f ↔ Mm.there F f := by
  unfold Mm.there
  rw [h.1, h.2]
theorem lay_more {F G : Mm.Fr} {s : Mm.Sp} {q k m : Nat} {d : List UInt8} {f : Int} {p : Nat} (h : Mm.layB s F q (d.take k) = some G) (hf : Mm.find s (q + k) 1 true = some (f, p)) (ht : Mm.there F f) (hm : p + m ≤ 128) (hk : k + m ≤ d.length) :
    Mm.layB s F q (d.take (k + m)) = some (G.set f.toNat (Mm.over (Mm.fr G f.toNat) p ((d.drop k).take m))) := by
  have hs := Mm.lay_shape s _ F q G h
  obtain ⟨g, e1, e2⟩ := good_find hf ((shape_there hs f).2 ht)
  have l1 : (d.take k).length = k := by simp; omega
  have l2 : ((d.drop k).take m).length = m := by simp; omega
  rw [List.take_add, Mm.lay_add, h, Option.bind_some, l1, Mm.lay_page s _ G (q + k) (by rw [l2]; omega) g, e1, e2]
theorem lay_less {F G : Mm.Fr} {s : Mm.Sp} {q k : Nat} {d : List UInt8} (h : Mm.layB s F q (d.take k) = some G) (hk : k < d.length) (hf : Mm.find s (q + k) 1 true = none ∨ ∃ f p, Mm.find s (q + k) 1 true = some (f, p) ∧ ¬ Mm.there F f) : Mm.layB s F q d = none := by
  have hs := Mm.lay_shape s _ F q G h
  refine lay_stop (k := k + 1) ?_
  rw [lay_take hk h, set_find]
  rcases hf with e | ⟨f, p, e, ht⟩
  · rw [e]
  · rw [e]
    exact if_neg (fun x => ht ((shape_there hs f).1 x))
theorem ext_more (D : ByteArray) (k m : Nat) (h : k ≤ D.size) : (D.extract k D.size).extract m (D.extract k D.size).size = D.extract (k + m) D.size := by
  apply toL_inj
  have z : (D.extract k D.size).size = D.size - k := by rw [ByteArray.size_extract]; omega
  rw [toL_extract, toL_extract, toL_extract, z, List.take_of_length_le (l := (toL D).drop k) (by rw [List.length_drop, toL_length]; exact Nat.le_refl _), List.drop_drop]
  congr 1
  omega
theorem ext_take (D : ByteArray) (k m : Nat) : (toL (D.extract k D.size)).take m = ((toL D).drop k).take m := by
  rw [toL_extract, List.take_of_length_le (l := (toL D).drop k) (by rw [List.length_drop, toL_length]; exact Nat.le_refl _)]
set_option maxHeartbeats 1000000 in
theorem pieces71 (W0 : World) (B g10 g7 : Nat) (A A' : Option Addr) (len cap c : Nat) (l : List ByteArray) (s : Mm.Sp) (hs : SpOk s) (q : Nat) (D : ByteArray) (w : World) (hl : Tz W0 A len cap l) (hq : q < 4294967296) (hD : D.size ≤ 9223372036854775807)
    (h7 : g7 < B) (hW : W0.heap.size ≤ g7) (hr : RS w B A' len c l) (ho : Own w g10 53 #[.slice A' len c]) (hd : Own w g7 9 #[.string D]) (hw0 : Below W0.heap.size W0 w) :
    Calls Try.prog 67 #[.slice A len cap, .agg (sc s), .int .u32 (q : Nat), .int .i64 D.size, .bool true, .func (Fn.func 71) #[] #[.pointer (some ⟨g10, 0, none⟩), .pointer (some ⟨g7, 0, none⟩)]] w fun e w' =>
      e = .returned (.bool (Mm.layM (fs l) s q (toL D)).isSome) ∧ (∀ G, Mm.layM (fs l) s q (toL D) = some G → ∃ Lr, RS w' B A' len c Lr ∧ fs Lr = G ∧ Own w' g10 53 #[.slice A' len c]) ∧ Below W0.heap.size W0 w' := by
  have hlen : len ≤ 9223372036854775807 := Nat.le_trans hl.m (by decide)
  have C0 : Ls W0 B g10 g7 w.heap.size A' len c s l D (w.alloc (Obj.cells (sc s) 57)) :=
    ⟨hr.alloc _, ho.alloc _, hd.alloc _, Own.new _ _ _, hw0.trans ((grow w (Obj.cells (sc s) 57)).mono hw0.size)⟩
  clear hr ho hd hw0
  by_cases cc : q ≤ 2048 ∧ q + (toL D).length ≤ 2048
  · rw [Mm.layM, if_pos cc]
    rw [toL_length] at cc
    obtain ⟨c2, c3⟩ := cc
    have d1 : ¬ (D.size : Int) < 0 := by omega
    have d2 : ¬ 2048 < (q : Int) := by omega
    have d3 : ¬ 2048 - (q : Int) < (D.size : Int) := by omega
    obtain ⟨N, hN⟩ : ∃ N, N = D.size := ⟨_, rfl⟩
    rw [← hN] at d1 d3 c3 ⊢
    have HNN := Lib.hid hN
    clear hN
    go_enter Try.func67, Try.ntmps67
    go_wp2_with fail
    go_loopw [2, 3, 13, 14, 15, 16] (fun a i _ _ _ _ wr => ∃ (k : Nat) (Lr : List ByteArray), k ≤ N ∧ a = .int .u32 ((q + k : Nat) : Int) ∧ i = .int .i64 ((N - k : Nat) : Int) ∧ Mm.layB s (fs l) q ((toL D).take k) = some (fs Lr) ∧ Ls W0 B g10 g7 w.heap.size A' len c s Lr (D.extract k D.size) wr) (fun _ i _ _ _ _ _ => (intOf i).toNat)
    case atStart =>
      refine ⟨0, l, Nat.zero_le _, rfl, rfl, by rw [List.take_zero]; exact Mm.lay_nil _ _ _, ?_⟩
      rw [show D.extract 0 D.size = D from by simp]
      exact C0
    case round =>
      clear C0
      obtain ⟨k, Lr, hk, rfl, rfl, hL, hC⟩ := hrel
      by_cases hlt : k < N
      · have hf := fun wr => find_any s hs (q + k) 1 true wr (by omega) (by decide) (by decide)
        unfold FindIs at hf
        have hkt : k < (toL D).length := by rw [toL_length, ← HNN.out]; exact hlt
        have e1 : 0 < N - k := by omega
        have e2 : (0 : Int) < ((N - k : Nat) : Int) := by omega
        obtain ⟨M, hM⟩ : ∃ M, M = N - k := ⟨_, rfl⟩
        rw [← hM] at e1 e2 ⊢
        obtain ⟨a, ha⟩ : ∃ a, a = q + k := ⟨_, rfl⟩
        rw [← ha] at hf ⊢
        have hsp := hC.sp
        cases hr : Mm.find s a 1 true with
        | none =>
          have HNO := Lib.hid (lay_less hL hkt (.inl (by rw [← ha]; exact hr)))
          rw [hr] at hf
          simp only [Option.map_none, Option.getD_none, Option.isSome_none] at hf
          clear hM ha hL hkt
          go_wp2_with (refine ls rfl rfl rfl hs hsp ?_)
          refine (hf _).mono ?_
          rintro e w4 ⟨rfl, hx4⟩
          have hC4 := hC.below hx4
          clear hf hsp hC
          go_wp2_with fail
          go_ret
          exact ⟨by rw [HNO.out]; rfl, (fun L' h => by rw [HNO.out] at h; cases h), hC4.w0⟩
        | some r =>
          obtain ⟨f, p⟩ := r
          obtain ⟨hok, -, -, hp⟩ := find_some hr
          have hp8 : p < 128 := by omega
          have ha2 := hok.2.1
          rw [hr] at hf
          simp only [Option.map_some, Option.getD_some, Option.isSome_some] at hf
          have hfm := fun wr (hh : Tz wr A len cap l) => frame_any A len cap l f wr hh.t hlen
          by_cases ht : Mm.there (fs l) f
          · rw [decide_eq_true ht] at hfm
            obtain ⟨m, hm⟩ : ∃ m, m = min M (128 - p) := ⟨_, rfl⟩
            have em : min (M : Int) (128 - (p : Int)) = (m : Int) := by omega
            have hm0 : 0 < m := by omega
            have hmp : p + m ≤ 128 := by omega
            have hmM : m ≤ M := by omega
            have hkm : k + m ≤ (toL D).length := by rw [toL_length, ← HNN.out]; omega
            have HMo := Lib.hid (lay_more hL (by rw [← ha]; exact hr) ht hmp hkm)
            have hsh := Mm.lay_shape s _ _ _ _ hL
            obtain ⟨kf, b0, off, rfl, hkf, rfl, -, hz, hfrm⟩ := there_get hl.t ht
            have hzr : (nth Lr kf).size = 128 := by
              have := hsh.2 kf
              rw [fr_fs _ _ (by rw [hC.r.1]; exact hkf), fr_fs _ _ (by rw [hl.t.1]; exact hkf), toL_length, toL_length] at this
              omega
            rw [Int.toNat_natCast, fr_fs _ _ (by rw [hC.r.1]; exact hkf), ← ext_take] at HMo
            have HX := Lib.hid (ext_more D k m (by rw [← HNN.out]; exact hk))
            rcases hC.r.form with ⟨_, h0', _⟩ | ⟨g, rfl, _⟩
            · omega
            have hzd : (D.extract k D.size).size = D.size - k := by rw [ByteArray.size_extract]; omega
            have hc1 := fun wr (hc : Ls W0 B g10 g7 w.heap.size (some ⟨g, 0, none⟩) len c s Lr (D.extract k D.size) wr) => lay1_any W0 B g10 g7 w.heap.size g len c s Lr (D.extract k D.size) kf p m wr hc h7 hW hkf hl.m (by rw [hzr]; exact hmp) (by omega) (by rw [hzd, ← HNN.out]; omega) (by rw [hzd, ← HNN.out]; omega)
            have u1 : IntKind.u32.wrap (m : Int) = (m : Int) := u32_id m (by omega)
            have u2 : IntKind.u32.wrap ((a : Int) + (m : Int)) = (a : Int) + (m : Int) := by
              have := u32_id (a + m) (by omega)
              simpa using this
            have u3 : IntKind.i64.wrap ((M : Int) - (m : Int)) = (M : Int) - (m : Int) := IntWalk.i64_in _ (by omega)
            have HA := Lib.hid ha
            have HMM := Lib.hid hM
            clear ht hok hr hz hfrm hp hL ha hM hm hzr hzd hsh hkt hkm
            go_wp2_with (refine ls rfl rfl rfl hs hsp ?_)
            refine (hf _).mono ?_
            rintro e w4 ⟨rfl, hx4⟩
            have hC4 := hC.below hx4
            clear hf hsp hC hx4
            go_wp2_with fail
            refine (hfm _ (hl.below hC4.w0)).mono ?_
            rintro e w5 ⟨rfl, rfl⟩
            go_wp2_with fail
            refine (hc1 _ hC4).mono ?_
            rintro e w5 ⟨rfl, hC5⟩
            rw [HX.out] at hC5
            clear hC4 hc1 hfm
            go_wp2_with fail
            go_roundw
            case rel =>
              have ha := HA.out
              have hM := HMM.out
              refine ⟨k + m, _, by omega, ?_, ?_, ?_, hC5⟩
              · rw [show q + (k + m) = a + m from by omega]; simp only [Int.natCast_add]
              · rw [show N - (k + m) = M - m from by omega]; congr 1; omega
              · rw [HMo.out, fs_set, toL_of]
            case measure => simp [intOf]; omega
          · rw [decide_eq_false ht] at hfm
            have HNO := Lib.hid (lay_less hL hkt (.inr ⟨f, p, by rw [← ha]; exact hr, ht⟩))
            clear hM ha hL hr hok ht hp hkt
            go_wp2_with (refine ls rfl rfl rfl hs hsp ?_)
            refine (hf _).mono ?_
            rintro e w4 ⟨rfl, hx4⟩
            have hC4 := hC.below hx4
            clear hf hsp hC hx4
            go_wp2_with fail
            refine (hfm _ (hl.below hC4.w0)).mono ?_
            rintro e w5 ⟨rfl, rfl⟩
            go_wp2_with fail
            go_ret
            exact ⟨by rw [HNO.out]; rfl, (fun L' h => by rw [HNO.out] at h; cases h), hC4.w0⟩
      · obtain rfl : k = N := by omega
        rw [Nat.sub_self]
        rw [show (toL D).take k = toL D from List.take_of_length_le (by rw [toL_length, ← HNN.out]; exact Nat.le_refl _)] at hL
        have HLL := Lib.hid hL
        clear hL
        go_wp2_with fail
        go_ret
        exact ⟨by rw [HLL.out]; rfl, (fun G h => by rw [HLL.out] at h; cases h; exact ⟨Lr, hC.r, rfl, hC.o⟩), hC.w0⟩
  · rw [Mm.layM, if_neg cc]
    rw [toL_length] at cc
    have d1 : ¬ (D.size : Int) < 0 := by omega
    by_cases d2 : 2048 < (q : Int)
    · go_enter Try.func67, Try.ntmps67
      go_wp2_with fail
      go_ret
      first | exact ⟨rfl, C0.w0⟩ | exact ⟨rfl, (fun L h => by cases h), C0.w0⟩
    · have d3 : 2048 - (q : Int) < (D.size : Int) := by omega
      have w1 : IntKind.i64.wrap (2048 - (q : Int)) = 2048 - (q : Int) := IntWalk.i64_in _ (by omega)
      go_enter Try.func67, Try.ntmps67
      go_wp2_with fail
      go_ret
      first | exact ⟨rfl, C0.w0⟩ | exact ⟨rfl, (fun L h => by cases h), C0.w0⟩
set_option maxHeartbeats 1000000 in
theorem lay_any (A : Option Addr) (len cap : Nat) (l : List ByteArray) (s : Mm.Sp) (hs : SpOk s) (q : Nat) (D : ByteArray) (w : World) (hl : Tz w A len cap l) (hq : q < 4294967296) (hD : D.size ≤ 9223372036854775807) :
    Calls Try.prog 40 #[.slice A len cap, .agg (sc s), .int .u32 (q : Nat), .string D] w fun e w' => MemIs w.heap.size (Mm.layM (fs l) s q (toL D)) e w' ∧ Below w.heap.size w w' := by
  obtain ⟨V, hV⟩ : ∃ V, V = (w.alloc (Obj.cells (sc s) 57)).alloc (Obj.cells #[.string D] 9) := ⟨_, rfl⟩
  have hz : V.heap.size = w.heap.size + 2 := by rw [hV]; simp
  have hbV : Below w.heap.size w V := by rw [hV]; exact ((Below.refl _ w).alloc (Nat.le_refl _) _).alloc (by simp) _
  have o1 : Own V w.heap.size 57 (sc s) := by rw [hV]; exact (Own.new w 57 _).alloc _
  have o2 : Own V (w.heap.size + 1) 9 #[.string D] := by
    have := Own.new (w.alloc (Obj.cells (sc s) 57)) 9 #[.string D]
    rw [hV]
    rwa [show (w.alloc (Obj.cells (sc s) 57)).heap.size = w.heap.size + 1 from by simp] at this
  have hlV := hl.below hbV
  have hcl := clone_any A len cap l V hlV
  rw [hz] at hcl
  have HV := Lib.hid hV
  clear hV
  go_enter Try.func40, Try.ntmps40
  go_wp2_with fail
  rw [← HV.out]
  refine hcl.mono ?_
  rintro e w2 ⟨⟨A', c', rfl, hr⟩, hx2⟩
  clear hcl HV
  have p1 : Own w2 w.heap.size 57 (sc s) := (hx2.block _ (by omega)).trans o1
  have p2 : Own w2 (w.heap.size + 1) 9 #[.string D] := (hx2.block _ (by omega)).trans o2
  have hb2 := hbV.trans (hx2.mono (by omega))
  have q1 := p1.alloc (Obj.cells #[.slice A' len c'] 53)
  have q2 := p2.alloc (Obj.cells #[.slice A' len c'] 53)
  have q3 := Own.new w2 53 #[.slice A' len c']
  have hr3 := hr.alloc (Obj.cells #[.slice A' len c'] 53)
  have hb3 := hb2.trans ((grow w2 (Obj.cells #[.slice A' len c'] 53)).mono hb2.size)
  have hp := pieces71 w (w.heap.size + 2) w2.heap.size (w.heap.size + 1) A A' len cap c' l s hs q D (w2.alloc (Obj.cells #[.slice A' len c'] 53)) hl hq hD (by omega) (by omega) hr3 q3 q2 hb3
  have c1 := q2.cell 0
  have hzz : w.heap.size + 2 ≤ w2.heap.size := by have := hx2.size; omega
  clear o1 o2 hbV hlV hx2 p1 p2 hb2 hr hr3 q2 q3 hb3 hz
  go_wp2_with (first | (refine ls rfl rfl rfl hs q1 ?_) | fail)
  refine hp.mono ?_
  rintro e w4 ⟨rfl, h2, h3⟩
  clear hp q1 c1
  have hm := hl.m
  cases hr : Mm.layM (fs l) s q (toL D) with
  | none =>
    simp only [Option.isSome_none]
    clear h2
    go_wp2_with fail
    go_ret2
    exact ⟨by rw [hr]; exact MemIs.no, h3⟩
  | some G =>
    obtain ⟨Lr, hr4, hG, ho4⟩ := h2 G hr
    have c4 := ho4.cell 0
    simp only [Option.isSome_some]
    clear h2
    go_wp2_with fail
    go_ret2
    exact ⟨MemIs.some_ (by rw [hr, hG]) (RS.base hr4 (by omega)) hm, h3⟩
end Mo
end Go.Proofs.Ytkbelpkmlmfedaa
