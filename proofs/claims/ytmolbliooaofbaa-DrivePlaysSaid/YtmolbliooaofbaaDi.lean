/-
  THE WALKS of what makes blocks: zeros, ones, so many of them; New.
-/
import Derived.Test.YtmolbliooaofbaaDh
import Derived.Test.YtmolbliooaofbaaSh
import Derived.Laws.CopyOwn
import Derived.Laws.IdiomStrings
import Derived.Laws.MakeOwn
namespace Go.Proofs.Ytmolbliooaofbaa
set_option linter.unusedVariables false
set_option maxRecDepth 100000
set_option linter.unusedSimpArgs false
open Go.RowKit
namespace Dw
open _root_.Go.Proofs.Ytmolbliooaofbaa.Nm
open Dm (Wr wnth)
theorem info5 : (Try.prog.info? 5).map (fun i => (i.zero, i.size, i.bytes)) = some (some (.int .u8 0), 1, 1) := by kernel_rfl
theorem made_one (v : Value) (n : Nat) : madeCells #[v] n = Array.replicate n v := by
  apply Array.ext
  · simp [madeCells]
  · intro i h1 h2
    simp [madeCells, Nat.mod_one]
theorem mk50 (n : Nat) (hn : n ≤ 1000) (w : World) : (Instr.makeSlice 50 (.int .i64 (n : Int)) (.int .i64 (n : Int))).run Try.prog w = .ok (.slice (some ⟨w.heap.size, 0, none⟩) n n) (w.alloc (.cells (Array.replicate n (.int .u8 0)) 5)) := by
  obtain ⟨i, hi, h1, h2, h3⟩ := info_parts info5
  have hr := run_make (P := Try.prog) w 50 5 i _ Try.underlying50 hi h1 .i64 .i64 n n (by omega) (by omega) (by rw [h3]; omega) (by omega)
  simp only [Int.toNat_natCast] at hr
  rw [hr, h2]
  show Result.ok _ (w.alloc (.cells (madeCells #[.int .u8 0] (n * 1)) 5)) = _
  rw [made_one, Nat.mul_one]
theorem conv50 (w : World) (g cap : Nat) (l : List UInt8) (h : ∀ j (hj : j < l.length), w.cell? ⟨g, j, none⟩ = some (.int .u8 (l[j].toNat : Int))) : (convert 50 9 (.slice (some ⟨g, 0, none⟩) l.length cap)).run Try.prog w = .ok (.string ⟨l.toArray⟩) w :=
  run_convert_bytes_back w 50 9 5 ⟨g, 0, none⟩ cap l Try.underlying50 Try.underlying5 Try.underlying9 (fun j hj => by rw [addr_add, Nat.zero_add]; exact h j hj)
def zs (n : Nat) : ByteArray := ⟨Array.replicate n 0⟩
theorem conv_rep (w : World) (g n cap : Nat) (b : UInt8) (h : Nm.Own w g 5 (Array.replicate n (.int .u8 (b.toNat : Int)))) : (convert 50 9 (.slice (some ⟨g, 0, none⟩) n cap)).run Try.prog w = .ok (.string ⟨Array.replicate n b⟩) w := by
  have := conv50 w g cap (List.replicate n b) (fun j hj => by
    rw [h.cell j]
    simp at hj
    simp [hj])
  rw [List.length_replicate] at this
  rw [this, List.toArray_replicate]
theorem conv_zs (w : World) (g n cap : Nat) (h : Nm.Own w g 5 (Array.replicate n (.int .u8 0))) : (convert 50 9 (.slice (some ⟨g, 0, none⟩) n cap)).run Try.prog w = .ok (.string (zs n)) w := conv_rep w g n cap 0 h
/-- a row of which the first are ones -/
def ov (k : Nat) : Array Value := (List.replicate k (Value.int .u8 1) ++ List.replicate (128 - k) (Value.int .u8 0)).toArray
theorem ov_size {k : Nat} (h : k ≤ 128) : (ov k).size = 128 := by simp [ov]; omega
theorem ov_set {k : Nat} (h : k < 128) : (ov k).setIfInBounds k (.int .u8 1) = ov (k + 1) := by
  unfold ov
  rw [List.setIfInBounds_toArray, List.set_append_right _ _ (by simp)]
  congr 1
  rw [List.length_replicate, Nat.sub_self, show 128 - k = (128 - (k + 1)) + 1 from by omega, List.replicate_succ, List.set_cons_zero, List.replicate_succ', List.append_assoc]
  rfl
theorem ov_end : ov 128 = Array.replicate 128 (.int .u8 1) := by
  unfold ov
  rw [Nat.sub_self, show List.replicate 0 (Value.int .u8 0) = [] from rfl, List.append_nil, List.toArray_replicate]
theorem conv_ones (w : World) (g : Nat) (h : Nm.Own w g 5 (ov 128)) : (convert 50 9 (.slice (some ⟨g, 0, none⟩) 128 128)).run Try.prog w = .ok (.string Dm.oB) w := by
  rw [ov_end] at h
  exact conv_rep w g 128 128 1 h
theorem zs_zB : zs 128 = Dm.zB := rfl
set_option maxHeartbeats 1000000 in
theorem ones_any (w : World) : Calls Try.prog 24 #[] w fun e w' => e = .returned (.string Dm.oB) ∧ Below w.heap.size w w' := by
  have hmk := mk50 128 (by omega) w
  have o0 : Nm.Own (w.alloc (Obj.cells (Array.replicate 128 (.int .u8 0)) 5)) w.heap.size 5 (ov 0) := Nm.Own.new w 5 _
  have hb0 := grow w (Obj.cells (Array.replicate 128 (.int .u8 0)) 5)
  generalize hZ : (Array.replicate 128 (Value.int .u8 0)) = Z at *
  rw [show ((128 : Nat) : Int) = 128 from rfl] at hmk
  have HO := fun (wr : World) (h : Nm.Own wr w.heap.size 5 (ov 128)) => conv_ones wr w.heap.size h
  go_enter Try.func24, Try.ntmps24
  go_wp2_with fail
  generalize w.alloc (Obj.cells Z 5) = W at *
  go_loopw [2, 6] (fun _ i wr => ∃ k : Nat, k ≤ 128 ∧ i = .int .i64 k ∧ Nm.Own wr w.heap.size 5 (ov k) ∧ Below w.heap.size w wr) (fun _ i _ => 128 - (intOf i).toNat)
  case atStart => exact ⟨0, Nat.zero_le _, rfl, o0, hb0⟩
  case round =>
    obtain ⟨k, hk, rfl, o1, hb1⟩ := hrel
    by_cases hlt : k < 128
    · have hlt' : (k : Int) < 128 := by omega
      have c0 : ∃ v, wr.cell? ⟨w.heap.size, k, none⟩ = some v := by
        rw [o1.cell k]
        exact ⟨_, Array.getElem?_eq_getElem (by rw [ov_size hk]; exact hlt)⟩
      obtain ⟨v0, c0⟩ := c0
      have f0 := o1.frozen k
      have o2 := o1.set k (.int .u8 1)
      rw [ov_set hlt] at o2
      have hb2 := hb1.setCell (p := ⟨w.heap.size, k, none⟩) (Nat.le_refl _) (.int .u8 1)
      clear o0 hb0 hmk o1
      go_wp2_with fail
      go_roundw
      case rel => exact ⟨k + 1, by omega, by go_num, o2, hb2⟩
      case measure => simp [intOf]; omega
    · obtain rfl : k = 128 := by omega
      have hcv := HO _ o1
      clear o0 hb0 hmk o1
      go_wp2_with fail
      go_ret
      exact ⟨rfl, hb1⟩
theorem info9s : (Try.prog.info? 9).map (·.size) = some 1 := by kernel_rfl
theorem mk22 (n : Nat) (hn : n ≤ 1000) (w : World) : (Instr.makeSlice 22 (.int .i64 (n : Int)) (.int .i64 (n : Int))).run Try.prog w = .ok (.slice (some ⟨w.heap.size, 0, none⟩) n n) (w.alloc (.cells (Array.replicate n (.string ⟨#[]⟩)) 9)) := by
  obtain ⟨i, hi, h1, h2, h3⟩ := info_parts info9
  have hr := run_make (P := Try.prog) w 22 9 i _ Try.underlying22 hi h1 .i64 .i64 n n (by omega) (by omega) (by rw [h3]; omega) (by omega)
  simp only [Int.toNat_natCast] at hr
  rw [hr, h2]
  show Result.ok _ (w.alloc (.cells (madeCells #[.string ⟨#[]⟩] (n * 1)) 9)) = _
  rw [made_one, Nat.mul_one]
/-- a row of n texts of which the first k are x -/
def rv (x : ByteArray) (n k : Nat) : Array Value := (List.replicate k (Value.string x) ++ List.replicate (n - k) (Value.string ⟨#[]⟩)).toArray
theorem rv_size {x : ByteArray} {n k : Nat} (h : k ≤ n) : (rv x n k).size = n := by simp [rv]; omega
theorem rv_zero (x : ByteArray) (n : Nat) : rv x n 0 = Array.replicate n (.string ⟨#[]⟩) := by
  unfold rv
  rw [show List.replicate 0 (Value.string x) = [] from rfl, List.nil_append, Nat.sub_zero, List.toArray_replicate]
theorem rv_copy {x : ByteArray} {n k m : Nat} (h : k + m ≤ n) : ((rv x n k).toList.take k ++ (List.replicate m (Value.string x) ++ (rv x n k).toList.drop (k + (List.replicate m (Value.string x)).length))).toArray = rv x n (k + m) := by
  unfold rv
  rw [List.toList_toArray, List.take_left' (by simp), List.length_replicate, List.drop_append, List.drop_of_length_le (by simp), List.nil_append, List.length_replicate, List.drop_replicate,
    ← List.append_assoc, List.replicate_append_replicate, show n - k - (k + m - k) = n - (k + m) from by omega]
theorem rv_at {x : ByteArray} {n k j : Nat} (h : j < k) : (rv x n k)[j]? = some (.string x) := by
  unfold rv
  rw [List.getElem?_toArray, List.getElem?_append_left (by simpa using h)]
  simp [h]
theorem rv_row {w : World} {B g n : Nat} {x : ByteArray} (h : Nm.Own w g 9 (rv x n n)) (hB : B ≤ g) (hn : n ≤ 1000) : RS w B (some ⟨g, 0, none⟩) n n (List.replicate n x) := by
  refine ⟨by simp, by simp, .inr ⟨g, n, rv x n n, rfl, hB, h, Nat.le_refl _, by unfold maxLen; omega, by rw [rv_size (Nat.le_refl _)]; omega, ?_⟩⟩
  unfold rv
  simp [sv]
theorem copy_rv (W : World) (g n k : Nat) (x : ByteArray) (h : Nm.Own W g 9 (rv x n k)) (a : Addr) (sLen sCap dCap m : Nat) (hm : m = Nat.min sLen (n - k)) (hk : k ≤ n) (hc : ∀ j, j < m → W.cell? (a.add j) = some (.string x)) (ty : TypeId) :
    (Builtin.copy_ #[22, 22] ty #[.slice (some ⟨g, k, none⟩) (n - k) dCap, .slice (some a) sLen sCap]).run Try.prog W = .ok (goInt m) (W.setRow g (rv x n (k + m))) := by
  have hm2 : k + m ≤ n := by
    have : m ≤ n - k := by rw [hm]; exact Nat.min_le_right _ _
    omega
  have e := run_copy_row (P := Try.prog) W 22 22 ty 9 g k (n - k) dCap a sLen sCap (rv x n k) 9 (List.replicate m (.string x)) Try.underlying22 info9s h (by simp [hm]) (fun j v hj => by
    have hjl : j < m := by simpa using (List.getElem?_eq_some_iff.1 hj).1
    rw [List.getElem?_replicate, if_pos hjl] at hj
    rw [← hj]
    exact hc j hjl) (by rw [rv_size hk, List.length_replicate]; exact hm2) (fun v hv => by rw [List.eq_of_mem_replicate hv]; rfl)
  rw [e, List.append_assoc, rv_copy hm2, List.length_replicate]
set_option maxHeartbeats 2000000 in
theorem repeat_any (x : ByteArray) (n g0 : Nat) (hn : n ≤ 1000) (w : World) (hc : w.cell? ⟨g0, 0, none⟩ = some (.string x)) :
    Calls Try.prog 26 #[.slice (some ⟨g0, 0, none⟩) 1 1, .int .i64 (n : Int)] w fun e w' => (∃ A c, e = .returned (.slice A n c) ∧ RS w' w.heap.size A n c (List.replicate n x)) ∧ Below w.heap.size w w' := by
  have hmul := fun wr => Try.bits_Mul 1 n (by omega) (by omega) wr
  rw [Nat.one_mul, Nat.div_eq_of_lt (show n < 18446744073709551616 by omega), Nat.mod_eq_of_lt (show n < 18446744073709551616 by omega)] at hmul
  have hmk := mk22 n hn w
  have u1 : IntKind.u64.wrap (n : Int) = (n : Int) := by rw [IntKind.wrap_u64]; omega
  have u2 : IntKind.i64.wrap (n : Int) = (n : Int) := IntWalk.i64_in _ (by omega)
  have o0 : Nm.Own (w.alloc (Obj.cells (Array.replicate n (.string ⟨#[]⟩)) 9)) w.heap.size 9 (rv x n 0) := by rw [rv_zero]; exact Nm.Own.new w 9 _
  have hb0 := grow w (Obj.cells (Array.replicate n (.string ⟨#[]⟩)) 9)
  have c0 := (hb0.cell (p := ⟨g0, 0, none⟩) (World.block_lt_of_cell? _ _ hc)).trans hc
  have t1 : ¬ (n : Int) < 0 := by omega
  have t2 : ¬ (9223372036854775807 : Int) < (n : Int) := by omega
  generalize hZ : (Array.replicate n (Value.string ⟨#[]⟩)) = Z at *
  go_enter Try.func26, Try.ntmps26
  go_wp2_with fail
  refine (hmul _).mono ?_
  rintro e w1 ⟨rfl, rfl⟩
  have t3 : ((0 : Nat) : Int) = 0 := rfl
  rw [t3]
  clear hmul t3
  obtain ⟨m, hm, hm2⟩ : ∃ m, m = Nat.min 1 (n - 0) ∧ (0 < n → 0 < m) := ⟨_, rfl, fun h => by rw [Nat.sub_zero]; exact Nat.lt_min.2 ⟨by decide, h⟩⟩
  have hmn : m ≤ n := by rw [hm, Nat.sub_zero]; exact Nat.min_le_right _ _
  have hm1 : m ≤ 1 := by rw [hm]; exact Nat.min_le_left _ _
  have hcp := copy_rv _ w1.heap.size n 0 x o0 ⟨g0, 0, none⟩ 1 1 n m hm (by omega) (fun j hj => by rw [addr_add]; (obtain rfl : j = 0 := (by omega)); exact c0) 3
  rw [Nat.sub_zero, Nat.zero_add] at hcp
  have o1 : Nm.Own ((w1.alloc (Obj.cells Z 9)).setRow w1.heap.size (rv x n m)) w1.heap.size 9 (rv x n m) := setRow_heap _ _ _ _ 9 (0, 0) o0
  have hb1 := (St.row (w1.alloc (Obj.cells Z 9)) w1.heap.size (rv x n m)).below hb0 (Nat.le_refl _)
  clear hm hm1 o0 hb0 c0 hc
  go_wp2_with fail
  generalize (w1.alloc (Obj.cells Z 9)).setRow w1.heap.size (rv x n m) = W1 at *
  go_loopw [8] (fun i wr => ∃ k : Nat, k ≤ n ∧ (0 < n → 0 < k) ∧ i = .int .i64 k ∧ Nm.Own wr w1.heap.size 9 (rv x n k) ∧ Below w1.heap.size w1 wr) (fun i _ => n - (intOf i).toNat)
  case atStart => exact ⟨m, hmn, hm2, rfl, o1, hb1⟩
  case round =>
    clear o1 hb1 hcp hmk
    obtain ⟨k, hk, hk0, rfl, o1, hb1⟩ := hrel
    by_cases hlt : k < n
    · have hlt' : (k : Int) < (n : Int) := by omega
      have hk1 := hk0 (by omega)
      obtain ⟨q, hq⟩ : ∃ q, q = Nat.min k (n - k) := ⟨_, rfl⟩
      have hq1 : 0 < q := by rw [hq]; exact Nat.lt_min.2 ⟨hk1, by omega⟩
      have hq2 : q ≤ n - k := by rw [hq]; exact Nat.min_le_right _ _
      have hq3 : q ≤ k := by rw [hq]; exact Nat.min_le_left _ _
      have HQ := Lib.hid hq
      clear hq
      have i1 : (k : Int) ≤ (n : Int) := by omega
      have i2 : ¬ n = k := by omega
      have w2 : IntKind.i64.wrap ((k : Int) + (q : Int)) = (k : Int) + (q : Int) := IntWalk.i64_in _ (by omega)
      generalize hg : w1.heap.size = g at *
      go_wp2_with fail
      refine wp_region_held_drew (S := fun w' => Below g w1 w') (by kernel_rfl) hb1.drew (fun hHeld => ?_)
      replace o1 : Nm.Own wr.drew g 9 (rv x n k) := o1
      clear hb1
      generalize wr.drew = W2 at *
      refine wpAnyH_take (i := 0) (oi := { dst := some 38, op := Op.move (Operand.tmp 8), type := _, pos := _, after := _, guard := _ }) (v := ?_) rfl (by kernel_rfl) (by kernel_rfl) (by kernel_rfl) (fun _ _ _ h => h) (Or.inl ⟨by rfl, ?_⟩) hHeld ?_
      rotate_left
      · intro wq hSw
        go_simp
        rfl
      try simp only [Act.put, List.setIfInBounds_toArray, List.set_cons_zero, List.set_cons_succ]
      refine wpAnyH_take (i := 1) (oi := { dst := some 39, op := Op.move (Operand.tmp 7), type := _, pos := _, after := _, guard := _ }) (v := ?_) rfl (by kernel_rfl) (by kernel_rfl) (by kernel_rfl) (fun _ _ _ h => h) (Or.inl ⟨by rfl, ?_⟩) hHeld ?_
      rotate_left
      · intro wq hSw
        go_simp
        rfl
      try simp only [Act.put, List.setIfInBounds_toArray, List.set_cons_zero, List.set_cons_succ]
      refine wpAnyH_take (i := 2) (oi := { dst := some 40, op := Op.move (Operand.tmp 8), type := _, pos := _, after := _, guard := _ }) (v := ?_) rfl (by kernel_rfl) (by kernel_rfl) (by kernel_rfl) (fun _ _ _ h => h) (Or.inl ⟨by rfl, ?_⟩) hHeld ?_
      rotate_left
      · intro wq hSw
        go_simp
        rfl
      try simp only [Act.put, List.setIfInBounds_toArray, List.set_cons_zero, List.set_cons_succ]
      refine wpAnyH_take (i := 3) (oi := { dst := some 41, op := Op.slice 22 (Operand.tmp 39) (some (Operand.tmp 40)) none none, type := _, pos := _, after := _, guard := _ }) (v := ?_) rfl (by kernel_rfl) (by kernel_rfl) (by kernel_rfl) (fun _ _ _ h => h) (Or.inl ⟨by rfl, ?_⟩) hHeld ?_
      rotate_left
      · intro wq hSw
        go_simp
        rfl
      try simp only [Act.put, List.setIfInBounds_toArray, List.set_cons_zero, List.set_cons_succ]
      refine wpAnyH_take (i := 4) (oi := { dst := some 42, op := Op.move (Operand.tmp 7), type := _, pos := _, after := _, guard := _ }) (v := ?_) rfl (by kernel_rfl) (by kernel_rfl) (by kernel_rfl) (fun _ _ _ h => h) (Or.inl ⟨by rfl, ?_⟩) hHeld ?_
      rotate_left
      · intro wq hSw
        go_simp
        rfl
      try simp only [Act.put, List.setIfInBounds_toArray, List.set_cons_zero, List.set_cons_succ]
      refine wpAnyH_take (i := 5) (oi := { dst := some 43, op := Op.move (Operand.tmp 8), type := _, pos := _, after := _, guard := _ }) (v := ?_) rfl (by kernel_rfl) (by kernel_rfl) (by kernel_rfl) (fun _ _ _ h => h) (Or.inl ⟨by rfl, ?_⟩) hHeld ?_
      rotate_left
      · intro wq hSw
        go_simp
        rfl
      try simp only [Act.put, List.setIfInBounds_toArray, List.set_cons_zero, List.set_cons_succ]
      refine wpAnyH_take (i := 6) (oi := { dst := some 44, op := Op.slice 22 (Operand.tmp 42) none (some (Operand.tmp 43)) none, type := _, pos := _, after := _, guard := _ }) (v := ?_) rfl (by kernel_rfl) (by kernel_rfl) (by kernel_rfl) (fun _ _ _ h => h) (Or.inl ⟨by rfl, ?_⟩) hHeld ?_
      rotate_left
      · intro wq hSw
        go_simp
        rfl
      try simp only [Act.put, List.setIfInBounds_toArray, List.set_cons_zero, List.set_cons_succ]
      refine wpAnyH_ready (rs := [7]) (by kernel_rfl) (by simp) ?_
      refine AllReadyH.cons (o := { dst := some 45, op := Op.call { callee := Callee.builtin Builtin.copy, args := #[Operand.tmp 41, Operand.tmp 44], argTypes := #[22, 22] }, type := _, pos := _, after := _, guard := _ }) rfl (fun KK hKK => ?_) AllReadyH.nil
      have hKS := Lib.hid hKK
      clear hKK
      have hcp := copy_rv W2 g n k x o1 ⟨g, 0, none⟩ k n (n - k) q HQ.out (by omega) (fun j hj => by rw [addr_add, o1.cell, Nat.zero_add]; exact rv_at (by omega)) 3
      go_simp
      have o3 : Nm.Own (W2.setRow g (rv x n (k + q))) g 9 (rv x n (k + q)) := setRow_heap _ _ _ _ 9 (0, 0) o1
      have hb3 := (St.row W2 g (rv x n (k + q))).below hHeld (Nat.le_refl _)
      refine hKS.out.out _ _ (by exact hb3) (fun hHeld => ?_)
      clear hKS KK hcp o1
      generalize W2.setRow g (rv x n (k + q)) = W7 at *
      try simp only [Act.put, List.setIfInBounds_toArray, List.set_cons_zero, List.set_cons_succ]
      refine wpAnyH_take (i := 8) (oi := { dst := some 46, op := Op.binOp BinOp.add 3 (Operand.tmp 38) (Operand.tmp 45) 3, type := _, pos := _, after := _, guard := _ }) (v := ?_) rfl (by kernel_rfl) (by kernel_rfl) (by kernel_rfl) (fun _ _ _ h => h) (Or.inl ⟨by rfl, ?_⟩) hHeld ?_
      rotate_left
      · intro wq hSw
        go_simp
        rfl
      try simp only [Act.put, List.setIfInBounds_toArray, List.set_cons_zero, List.set_cons_succ]
      refine wpAnyH_take (i := 9) (oi := { dst := some 8, op := Op.assign (Operand.tmp 46), type := _, pos := _, after := _, guard := _ }) (v := ?_) rfl (by kernel_rfl) (by kernel_rfl) (by kernel_rfl) (fun _ _ _ h => h) (Or.inl ⟨by rfl, ?_⟩) hHeld ?_
      rotate_left
      · intro wq hSw
        go_simp
        rfl
      try simp only [Act.put, List.setIfInBounds_toArray, List.set_cons_zero, List.set_cons_succ]
      refine wpAnyH_done (by kernel_rfl) ?_ _
      go_wp2_with fail
      go_roundw
      case rel => exact ⟨k + q, by omega, fun _ => by omega, by go_num, o3, hb3⟩
      case measure => simp [intOf]; omega
    · obtain rfl : k = n := by omega
      go_wp2_with fail
      go_ret
      exact ⟨⟨some ⟨w1.heap.size, 0, none⟩, k, rfl, rv_row o1 (Nat.le_refl _) hn⟩, hb1⟩
theorem step_app_text {w : World} {ops : Array Oper} {o : Oper} {a : Act} {K : Act → World → Prop} {Q : Exit → Act → World → Prop} {E : Prop} (hgd : o.guard = none) (s x : Operand)
    (ho : o.op = .call { callee := .builtin .append, args := #[s, x], argTypes := #[22, 22] })
    (B : Nat) (A : Option Addr) (n cap : Nat) (l : List ByteArray) (hs : a.eval s = .slice A n cap) (hr : RS w B A n cap l)
    (g1 c : Nat) (y : ByteArray) (hx : a.eval x = .slice (some ⟨g1, 0, none⟩) 1 c) (hy : w.cell? ⟨g1, 0, none⟩ = some (.string y)) (hn : n ≤ 100000) (hB : B ≤ w.heap.size) (H : Nat) (hH : w.heap.size = H)
    (h : ∀ g cap' w', RS w' B (some ⟨g, 0, none⟩) (n + 1) cap' (l ++ [y]) → Below B w w' →
      K (a.put o.dst (.slice (some ⟨g, 0, none⟩) (n + 1) cap')) w') : if Region.wanted o (yielded ops a.tmps) = true then Oper.wp Try.prog o a w K Q else E := by
  obtain ⟨i0, hi, hz0, hz1, hz2⟩ := info_parts info9
  refine step_append_lies w hgd s x 22 ho B 9 i0 (.string ⟨#[]⟩) 1 16 Try.underlying22 hi hz0 hz1 hz2 rfl (by decide) _ n (l.map sv) hs hr.2 ⟨g1, 0, none⟩ 1 c [sv y] hx rfl ?_ ?_ (by omega)
    (by unfold maxLen; omega) (by omega) hB H hH ?_
  · intro j u hu
    match j, hu with
    | 0, hu => simp at hu; subst hu; exact hy
    | j + 1, hu => simp at hu
  · intro u hu
    simp at hu
    subst hu
    rfl
  · intro g cap' w' h1 h2 h3 _
    refine h g cap' w' ⟨by simp [hr.1], by simpa [sv] using h1⟩ ?_
    refine (Below.refl B w).grown h2 hB fun k hk => ?_
    exact (hr.2.lt k hk).1
theorem rep_zB : (⟨(Lib.repeatL (⟨#[0]⟩ : ByteArray).data.toList 128).toArray⟩ : ByteArray) = Dm.zB := by decide +kernel
theorem B2.box {w : World} {cs : Array Value} {wr : World} (h : Bd w cs wr) (ds : Array Value) (hb : wr.heap.size = w.heap.size + 1) : B2 w cs ds (wr.alloc (Obj.cells ds 25)) :=
  ⟨h.o.alloc _, by rw [← hb]; exact Nm.Own.new wr 25 ds, (h.alloc _).b⟩
set_option maxHeartbeats 1000000 in
theorem new_any (n : Int) (w : World) (h0 : -9223372036854775808 ≤ n) (h1 : n ≤ 9223372036854775807) :
    Calls Try.prog 11 #[.int .i64 n] w fun e w' => AnsIs (Dm.newM n) e w' ∧ Below w.heap.size w w' := by
  have hb := grow w (Obj.cells (dv none 0 0 none 0 0 0) 25)
  have o := Nm.Own.new w 25 (dv none 0 0 none 0 0 0)
  by_cases hn : 0 ≤ n ∧ n ≤ 256
  · obtain ⟨k, rfl⟩ := Int.eq_ofNat_of_zero_le hn.1
    have HN := Lib.hid (show Dm.newM (k : Int) = (⟨List.replicate k Dm.zB, [], -1⟩, 0) by unfold Dm.newM; rw [if_pos hn, Int.toNat_natCast])
    have t1 : ¬ (k : Int) < 0 := by omega
    have t2 : ¬ (256 : Int) < (k : Int) := by omega
    have hk : k ≤ 256 := by omega
    clear hn
    go_enter Try.func11, Try.ntmps11
    go_wp2_with fail
    refine (Try.strings_Repeat ⟨#[0]⟩ 128 _ (by decide) (by decide)).mono ?_
    rw [rep_zB]
    rintro e w1 ⟨rfl, hx1⟩
    have o1 := o.below hx1
    have hb1 := hb.trans (hx1.mono hb.size)
    have gb := grow w1 (Obj.cells #[.string Dm.zB] 9)
    have o2 := o1.below gb
    have hb2 := hb1.trans (gb.mono hb1.size)
    have c0 := (Nm.Own.new w1 9 #[.string Dm.zB]).cell 0
    simp only [List.getElem?_toArray, List.getElem?_cons_zero] at c0
    generalize Dm.zB = Z at *
    clear o hb hx1 o1 hb1 gb
    go_wp2_with fail
    refine (repeat_any Z k w1.heap.size (by omega) _ c0).mono ?_
    rintro e w3 ⟨⟨A, c, rfl, hr⟩, hx3⟩
    have o3 := o2.below hx3
    have hb3 := hb2.trans (hx3.mono hb2.size)
    have hr3 := hr.mono (show w.heap.size + 1 ≤ _ from o2.lt)
    clear o2 hb2 hx3 hr c0
    go_wp2_with (refine sto25 (A := A) (n := k) (c := c) (A' := none) (m := 0) (c' := 0) (l := -1) rfl rfl rfl rfl o3 rfl ?_)
    intro w4 o4 s4
    go_wp2_with fail
    refine res25e rfl rfl rfl o4 rfl ⟨?_, s4.below hb3 (Nat.le_refl _)⟩
    rw [HN.out]
    exact ⟨A, k, c, none, 0, 0, rfl, ⟨Tz.of (s4.rs hr3 (by omega)) (by omega), Pz.nil _, by show (-9223372036854775808 : Int) ≤ -1; decide, by show (-1 : Int) ≤ 9223372036854775807; decide⟩⟩
  · have HN := Lib.hid (show Dm.newM n = (Dm.zero, 2) from if_neg hn)
    by_cases t1 : n < 0
    · go_enter Try.func11, Try.ntmps11
      go_wp2_with (refine sto25 (A := none) (n := 0) (c := 0) (A' := none) (m := 0) (c' := 0) (l := 0) rfl rfl rfl rfl o rfl ?_)
      all_goals try go_wp2_with fail
      all_goals first
        | (refine res25e rfl rfl rfl o rfl ⟨?_, hb⟩; rw [HN.out]; exact AnsIs.zero _ _)
        | (intro w4 o4 s4; go_wp2_with fail; refine res25e rfl rfl rfl o4 rfl ⟨?_, s4.below hb (Nat.le_refl _)⟩; rw [HN.out]; exact AnsIs.zero _ _)
    · have t2 : (256 : Int) < n := by omega
      have t3 : 0 ≤ n := by omega
      clear hn
      go_enter Try.func11, Try.ntmps11
      go_wp2_with (refine sto25 (A := none) (n := 0) (c := 0) (A' := none) (m := 0) (c' := 0) (l := 0) rfl rfl rfl rfl o rfl ?_)
      all_goals try go_wp2_with fail
      all_goals first
        | (refine res25e rfl rfl rfl o rfl ⟨?_, hb⟩; rw [HN.out]; exact AnsIs.zero _ _)
        | (intro w4 o4 s4; go_wp2_with fail; refine res25e rfl rfl rfl o4 rfl ⟨?_, s4.below hb (Nat.le_refl _)⟩; rw [HN.out]; exact AnsIs.zero _ _)
end Dw
end Go.Proofs.Ytmolbliooaofbaa
