/-
  THE WALKS of the turning of a bit of the map.
-/
import Derived.Test.YtambgmjiafcokaaDoorGa
import Derived.Laws.IdiomCopy
import Derived.Lib.BufferWrite
namespace Go.Proofs.YtambgmjiafcokaaDoor
set_option linter.unusedVariables false
set_option maxRecDepth 100000
set_option linter.unusedSimpArgs false
open Go.RowKit
namespace Dw
open _root_.Go.Proofs.YtambgmjiafcokaaDoor.Nm
/-- bytes as cells -/
def bv (l : List UInt8) : Array Value := (l.map fun b => Value.int .u8 (b.toNat : Int)).toArray
theorem bv_size (l : List UInt8) : (bv l).size = l.length := by simp [bv]
theorem bv_get {l : List UInt8} {i : Nat} (h : i < l.length) : (bv l)[i]? = some (.int .u8 ((l.getD i 0).toNat : Int)) := by
  unfold bv
  rw [List.getElem?_toArray, List.getElem?_map, List.getElem?_eq_getElem h, List.getD_eq_getElem?_getD, List.getElem?_eq_getElem h]; rfl
theorem bv_set (l : List UInt8) (i : Nat) (b : UInt8) : (bv l).setIfInBounds i (.int .u8 (b.toNat : Int)) = bv (l.set i b) := by
  unfold bv
  rw [List.setIfInBounds_toArray, List.map_set]
theorem conv_bv (w : World) (g cap : Nat) (l : List UInt8) (h : Own w g 5 (bv l)) : (convert 78 9 (.slice (some ⟨g, 0, none⟩) l.length cap)).run Tryd.prog w = .ok (.string ⟨l.toArray⟩) w :=
  conv50 w g cap l (fun j hj => by rw [h.cell j, bv_get hj, List.getD_eq_getElem?_getD, List.getElem?_eq_getElem hj]; rfl)
theorem xor_flip (b : UInt8) (i : Nat) : bits .xor .u8 (b.toNat : Int) ((2 ^ (i % 8) : Nat) : Int) = ((Gm.flip b (i % 8)).toNat : Int) := by
  have := xor_pow ⟨b.toNat, b.toNat_lt⟩ ⟨i % 8, Nat.mod_lt _ (by decide)⟩
  rw [Gm.flip_toNat b (Nat.mod_lt _ (by decide))]
  exact this
def pw (i : Nat) : Int := ((2 ^ (i % 8) : Nat) : Int)
theorem pow_u8 (i : Nat) : IntKind.u8.wrap (2 ^ min (((i % 8 : Nat) : Int)).toNat 8) = pw i := by
  unfold pw
  have h : i % 8 < 8 := Nat.mod_lt _ (by decide)
  rw [Int.toNat_natCast]
  generalize i % 8 = k at *
  match k, h with
  | 0, _ => rfl
  | 1, _ => rfl
  | 2, _ => rfl
  | 3, _ => rfl
  | 4, _ => rfl
  | 5, _ => rfl
  | 6, _ => rfl
  | 7, _ => rfl
set_option maxHeartbeats 1000000 in
theorem turned_any (A : Option Addr) (n c : Nat) (l : List ByteArray) (i : Nat) (w : World) (hl : Tz w A n c l) (h2 : 2 < n) (hs : (nth l 2).size = 128) (hi : i < 1024) (hm5 : n ≤ 100000 := by omega) :
    Calls Tryd.prog 38 #[.slice A n c, .int .i64 (i : Int)] w fun e w' => (∃ A' c', e = .returned (.slice A' n c') ∧ RS w' w.heap.size A' n c' (l.set 2 (turnT (nth l 2) i))) ∧ Below w.heap.size w w' := by
  have hmk := mk50 128 (by omega) w
  rw [show ((128 : Nat) : Int) = 128 from rfl] at hmk
  have oz := Own.new w 5 (Array.replicate 128 (.int .u8 0))
  have hb := grow w (Obj.cells (Array.replicate 128 (.int .u8 0)) 5)
  have hl1 := hl.below hb
  have hzs : (Array.replicate 128 (Value.int .u8 0)).size = 128 := Array.size_replicate
  generalize Array.replicate 128 (Value.int .u8 0) = Z at *
  obtain ⟨b, off, rfl, hc⟩ := hl1.t.2 (by omega)
  have c2 := hc 2 h2
  have h2' : (2 : Int) < (n : Int) := by omega
  clear hc
  have hcp := Lib.run_copy_row_string (P := Tryd.prog) (w.alloc (Obj.cells Z 5)) 78 9 3 5 w.heap.size 0 128 128 (nth l 2) Z 5 Tryd.underlying78 (by kernel_rfl) oz (by omega) (by omega)
  have hz2 : (Z.toList.take 0 ++ Lib.byteCells (nth l 2).data.toList ++ Z.toList.drop (0 + (nth l 2).size)).toArray = bv (toL (nth l 2)) := by
    rw [List.take_zero, List.nil_append, List.drop_of_length_le (by rw [Array.length_toList]; omega), List.append_nil]; rfl
  rw [hz2] at hcp
  have ob : Own ((w.alloc (Obj.cells Z 5)).setRow w.heap.size (bv (toL (nth l 2)))) w.heap.size 5 (bv (toL (nth l 2))) := setRow_heap _ _ _ _ 5 (0, 0) oz
  have hb0 := (St.row (w.alloc (Obj.cells Z 5)) w.heap.size (bv (toL (nth l 2)))).below hb (Nat.le_refl _)
  have hlL : (toL (nth l 2)).length = 128 := by rw [toL_length]; exact hs
  have HT := Lib.hid (show turnT (nth l 2) i = ⟨(Gm.turn (toL (nth l 2)) i).toArray⟩ from rfl)
  generalize hL : toL (nth l 2) = L at *
  have hlt : i / 8 < L.length := by omega
  have q1 : IntKind.i64.wrap ((i : Int) / 8) = (i : Int) / 8 := IntWalk.i64_in _ (by omega)
  have q2 : (0 : Int) ≤ (i : Int) / 8 ∧ (i : Int) / 8 < 128 := by omega
  have q3 : ((i : Int) / 8).toNat = i / 8 := rfl
  have q5 : IntKind.u8.wrap (2 ^ min ((i : Int).tmod 8).toNat 8) = pw i := pow_u8 i
  have q6 : bits .xor .u8 ((L.getD (i / 8) 0).toNat : Int) (pw i) = ((Gm.flip (L.getD (i / 8) 0) (i % 8)).toNat : Int) := xor_flip (L.getD (i / 8) 0) i
  have hbg := bv_get hlt
  have ht : Gm.turn L i = L.set (i / 8) (Gm.flip (L.getD (i / 8) 0) (i % 8)) := rfl
  generalize L.getD (i / 8) 0 = y at *
  clear hz2 hl1 oz hzs
  go_enter Tryd.func38, Tryd.ntmps38
  go_wp2_with fail
  generalize (w.alloc (Obj.cells Z 5)).setRow w.heap.size (bv L) = V at *
  have hb := hb0
  clear hcp hb0 c2 hmk
  refine wp_region_held_drew (S := fun w' => Below w.heap.size w w') (by kernel_rfl) hb.drew (fun hHeld => ?_)
  replace hb := hb.drew
  replace ob : Own V.drew w.heap.size 5 (bv L) := ob
  generalize V.drew = V0 at *
  generalize hB : w.heap.size = B at *
  refine wpAnyH_take (i := 0) (oi := { dst := some 13, op := Op.move (Operand.tmp 5), type := _, pos := _, after := _, guard := _ }) (v := ?_) rfl (by kernel_rfl) (by kernel_rfl) (by kernel_rfl) (fun _ _ _ h => h) (Or.inl ⟨by rfl, ?_⟩) hHeld ?_
  rotate_left
  · intro wq hSw
    go_simp
    rfl
  try simp only [Act.put, List.setIfInBounds_toArray, List.set_cons_zero, List.set_cons_succ]
  refine wpAnyH_take (i := 1) (oi := { dst := some 14, op := Op.move (Operand.tmp 1), type := _, pos := _, after := _, guard := _ }) (v := ?_) rfl (by kernel_rfl) (by kernel_rfl) (by kernel_rfl) (fun _ _ _ h => h) (Or.inl ⟨by rfl, ?_⟩) hHeld ?_
  rotate_left
  · intro wq hSw
    go_simp
    rfl
  try simp only [Act.put, List.setIfInBounds_toArray, List.set_cons_zero, List.set_cons_succ]
  refine wpAnyH_take (i := 2) (oi := { dst := some 15, op := Op.binOp BinOp.quo 3 (Operand.tmp 14) (Operand.const (Value.int IntKind.i64 8)) 3, type := _, pos := _, after := _, guard := _ }) (v := ?_) rfl (by kernel_rfl) (by kernel_rfl) (by kernel_rfl) (fun _ _ _ h => h) (Or.inl ⟨by rfl, ?_⟩) hHeld ?_
  rotate_left
  · intro wq hSw
    go_simp
    rfl
  try simp only [Act.put, List.setIfInBounds_toArray, List.set_cons_zero, List.set_cons_succ]
  refine wpAnyH_take (i := 3) (oi := { dst := some 16, op := Op.indexAddr 78 (Operand.tmp 13) (Operand.tmp 15), type := _, pos := _, after := _, guard := _ }) (v := ?_) rfl (by kernel_rfl) (by kernel_rfl) (by kernel_rfl) (fun _ _ _ h => h) (Or.inl ⟨by rfl, ?_⟩) hHeld ?_
  rotate_left
  · intro wq hSw
    go_simp
    rfl
  try simp only [Act.put, List.setIfInBounds_toArray, List.set_cons_zero, List.set_cons_succ]
  refine wpAnyH_take (i := 5) (oi := { dst := some 18, op := Op.move (Operand.tmp 1), type := _, pos := _, after := _, guard := _ }) (v := ?_) rfl (by kernel_rfl) (by kernel_rfl) (by kernel_rfl) (fun _ _ _ h => h) (Or.inl ⟨by rfl, ?_⟩) hHeld ?_
  rotate_left
  · intro wq hSw
    go_simp
    rfl
  try simp only [Act.put, List.setIfInBounds_toArray, List.set_cons_zero, List.set_cons_succ]
  refine wpAnyH_take (i := 6) (oi := { dst := some 19, op := Op.binOp BinOp.rem 3 (Operand.tmp 18) (Operand.const (Value.int IntKind.i64 8)) 3, type := _, pos := _, after := _, guard := _ }) (v := ?_) rfl (by kernel_rfl) (by kernel_rfl) (by kernel_rfl) (fun _ _ _ h => h) (Or.inl ⟨by rfl, ?_⟩) hHeld ?_
  rotate_left
  · intro wq hSw
    go_simp
    rfl
  try simp only [Act.put, List.setIfInBounds_toArray, List.set_cons_zero, List.set_cons_succ]
  refine wpAnyH_take (i := 7) (oi := { dst := some 20, op := Op.binOp BinOp.shl 5 (Operand.const (Value.int IntKind.u8 1)) (Operand.tmp 19) 3, type := _, pos := _, after := _, guard := _ }) (v := ?_) rfl (by kernel_rfl) (by kernel_rfl) (by kernel_rfl) (fun _ _ _ h => h) (Or.inl ⟨by rfl, ?_⟩) hHeld ?_
  rotate_left
  · intro wq hSw
    go_simp
    rfl
  try simp only [Act.put, List.setIfInBounds_toArray, List.set_cons_zero, List.set_cons_succ]
  refine wpAnyH_ready (rs := [4]) (by kernel_rfl) (by simp) ?_
  refine AllReadyH.cons (o := { dst := some 17, op := Op.load 5 (Operand.tmp 16), type := _, pos := _, after := _, guard := _ }) rfl (fun KK hKK => ?_) AllReadyH.nil
  have hKS := Lib.hid hKK
  clear hKK
  have ck := ob.cell (i / 8)
  rw [hbg] at ck
  go_simp
  refine hKS.out.out _ _ hb (fun hHeld => ?_)
  clear hKS KK ck
  try simp only [Act.put, List.setIfInBounds_toArray, List.set_cons_zero, List.set_cons_succ]
  refine wpAnyH_take (i := 8) (oi := { dst := some 21, op := Op.binOp BinOp.xor 5 (Operand.tmp 17) (Operand.tmp 20) 5, type := _, pos := _, after := _, guard := _ }) (v := ?_) rfl (by kernel_rfl) (by kernel_rfl) (by kernel_rfl) (fun _ _ _ h => h) (Or.inl ⟨by rfl, ?_⟩) hHeld ?_
  rotate_left
  · intro wq hSw
    go_simp
    rfl
  try simp only [Act.put, List.setIfInBounds_toArray, List.set_cons_zero, List.set_cons_succ]
  refine wpAnyH_take (i := 9) (oi := { dst := some 22, op := Op.indexAddr 78 (Operand.tmp 13) (Operand.tmp 15), type := _, pos := _, after := _, guard := _ }) (v := ?_) rfl (by kernel_rfl) (by kernel_rfl) (by kernel_rfl) (fun _ _ _ h => h) (Or.inl ⟨by rfl, ?_⟩) hHeld ?_
  rotate_left
  · intro wq hSw
    go_simp
    rfl
  try simp only [Act.put, List.setIfInBounds_toArray, List.set_cons_zero, List.set_cons_succ]
  refine wpAnyH_ready (rs := [10]) (by kernel_rfl) (by simp) ?_
  refine AllReadyH.cons (o := { dst := none, op := Op.store 5 (Operand.tmp 22) (Operand.tmp 21), type := _, pos := _, after := _, guard := _ }) rfl (fun KK hKK => ?_) AllReadyH.nil
  have hKS := Lib.hid hKK
  clear hKK
  have ck := ob.cell (i / 8)
  rw [hbg] at ck
  have cf := ob.frozen (i / 8)
  have s7 := St.cellOf V0 B (i / 8) (.int .u8 ((Gm.flip y (i % 8)).toNat : Int))
  have o7 := ob.set (i / 8) (.int .u8 ((Gm.flip y (i % 8)).toNat : Int))
  rw [bv_set] at o7
  have hb7 := s7.below hb (Nat.le_refl _)
  go_simp
  refine hKS.out.out _ _ hb7 (fun hHeld => ?_)
  clear hKS KK ck cf s7 ob hb
  try simp only [Act.put, List.setIfInBounds_toArray, List.set_cons_zero, List.set_cons_succ]
  refine wpAnyH_done (by kernel_rfl) ?_ _
  have hl2 : Tz (V0.setCell ⟨B, i / 8, none⟩ (.int .u8 ((Gm.flip y (i % 8)).toNat : Int))) (some ⟨b, off, none⟩) n c l := hl.below (by rw [hB]; exact hHeld)
  rw [← ht] at o7
  clear hb7
  generalize V0.setCell ⟨B, i / 8, none⟩ (.int .u8 ((Gm.flip y (i % 8)).toNat : Int)) = V1 at *
  clear q1 q2 q3 q5 q6 hbg ht
  go_wp2_with fail
  refine (clone_any _ _ _ _ _ hl2).mono ?_
  rintro e w1 ⟨⟨A1, c1, rfl, hr1⟩, hx1⟩
  have q1 := o7.below hx1
  have hBV : B < V1.heap.size := o7.lt
  have hb1 := hHeld.trans (hx1.mono (Nat.le_of_lt hBV))
  obtain ⟨g, rfl, hg1, hg2⟩ : ∃ g, A1 = some ⟨g, 0, none⟩ ∧ V1.heap.size ≤ g ∧ g < w1.heap.size := by
    rcases hr1.form with ⟨_, h0, _⟩ | h0
    · omega
    · exact h0
  have cc := RS.cell hr1 h2
  have cf := RS.frozen hr1 2
  have hcv := conv_bv w1 B 128 (Gm.turn L i) q1
  rw [Gm.turn_length, hlL] at hcv
  have s7 := St.cellOf w1 g 2 (.string ⟨(Gm.turn L i).toArray⟩)
  have hr2 := RS.put hr1 2 ⟨(Gm.turn L i).toArray⟩
  have hb2 := s7.below hb1 (by omega)
  have HR := Lib.hid (hr2.mono (Nat.le_of_lt hBV))
  clear hr2
  clear hr1 o7 hl2 hx1 hHeld hl
  generalize nth l 2 = T2 at cc
  go_wp2_with fail
  go_ret
  refine ⟨⟨some ⟨g, 0, none⟩, c1, rfl, ?_⟩, ?_⟩
  · rw [hB, HT.out]; exact HR.out
  · rw [hB]; exact hb2
end Dw
end Go.Proofs.YtambgmjiafcokaaDoor
