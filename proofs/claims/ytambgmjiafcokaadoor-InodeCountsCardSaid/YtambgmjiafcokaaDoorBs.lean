/-
  Rows of texts, boxes, bytes made, texts repeated: what the walks of a volume's plan stand on.
-/
import Derived.Test.YtambgmjiafcokaaDoorNr
import Derived.Test.YtambgmjiafcokaaDoorSh
import Derived.ArgAppend
import Derived.Laws.Tables
import Derived.Laws.Rows
import Derived.Deep.WholeRow
import Derived.LoopIn
import Derived.BigQuiet
import Derived.OrdersHeld
import Derived.Deep.RegionHeld
import Derived.Laws.CopyOwn
import Derived.Laws.IdiomStrings
import Derived.Laws.MakeOwn
namespace Go.Proofs.YtambgmjiafcokaaDoor
set_option linter.unusedVariables false
set_option maxRecDepth 100000
set_option linter.unusedSimpArgs false
open Go.RowKit
namespace Dw
open _root_.Go.Proofs.YtambgmjiafcokaaDoor.Nm
/-- a text of the row is set -/
theorem _root_.Go.Proofs.YtambgmjiafcokaaDoor.Nm.RS.put {w : World} {B g n cap : Nat} {l : List ByteArray} (h : RS w B (some ⟨g, 0, none⟩) n cap l) (k : Nat) (y : ByteArray) : RS (w.setCell ⟨g, k, none⟩ (.string y)) B (some ⟨g, 0, none⟩) n cap (l.set k y) := by
  obtain ⟨h1, h2, h3⟩ := h
  rcases h3 with ⟨e, _⟩ | ⟨g', c, cur, e, hB, hg, hc, hm, hs, ht⟩
  · cases e
  · cases e
    refine ⟨by simp [h1], by simpa using h2, .inr ⟨g, cap, cur.setIfInBounds k (.string y), rfl, hB, Own.set hg k _, hc, hm, by simp [hs], ?_⟩⟩
    rw [Array.toList_setIfInBounds, List.take_set, ht, List.map_set]
    rfl
theorem _root_.Go.Proofs.YtambgmjiafcokaaDoor.Nm.RS.cell {w : World} {B g n cap : Nat} {l : List ByteArray} (h : RS w B (some ⟨g, 0, none⟩) n cap l) {k : Nat} (hk : k < n) : w.cell? ⟨g, k, none⟩ = some (.string (nth l k)) := by
  obtain ⟨b, off, e, hc⟩ := h.ts.2 (by omega)
  have c := hc k hk
  have h3 := h.2.2
  rcases h3 with ⟨e', _⟩ | ⟨g', c', cur, e', hB, hg, _⟩
  · cases e'
  · cases e
    rwa [Nat.zero_add] at c
theorem _root_.Go.Proofs.YtambgmjiafcokaaDoor.Nm.RS.frozen {w : World} {B g n cap : Nat} {l : List ByteArray} (h : RS w B (some ⟨g, 0, none⟩) n cap l) (k : Nat) : w.frozen? ⟨g, k, none⟩ = false := by
  rcases h.2.2 with ⟨e', _⟩ | ⟨g', c', cur, e', hB, hg, _⟩
  · cases e'
  · cases e'
    exact Own.frozen hg k
theorem _root_.Go.Proofs.YtambgmjiafcokaaDoor.Nm.RS.lt {w : World} {B g n cap : Nat} {l : List ByteArray} (h : RS w B (some ⟨g, 0, none⟩) n cap l) : B ≤ g ∧ g < w.heap.size := by
  rcases h.form with ⟨e, _⟩ | ⟨g', e, h1, h2⟩
  · cases e
  · cases e; exact ⟨h1, h2⟩
theorem _root_.Go.Proofs.YtambgmjiafcokaaDoor.Nm.Own.other {w : World} {g : Nat} {t : TypeId} {cs : Array Value} (h : Own w g t cs) {a : Addr} (hne : a.block ≠ g) (v : Value) : Own (w.setCell a v) g t cs :=
  (Below.heap_setCell w a v g (fun e => hne e.symm)).trans h
theorem _root_.Go.Proofs.YtambgmjiafcokaaDoor.Nm.RS.other {w : World} {B n cap : Nat} {A : Option Addr} {l : List ByteArray} (h : RS w B A n cap l) {a : Addr} (hne : (Value.slice A n cap).ownBlock ≠ some a.block) (v : Value) : RS (w.setCell a v) B A n cap l :=
  ⟨h.1, ownsRow_setCell_other h.2 hne v⟩
theorem _root_.Go.Proofs.YtambgmjiafcokaaDoor.Nm.Own.below {w w' : World} {g : Nat} {t : TypeId} {cs : Array Value} (h : Own w g t cs) (hb : Below w.heap.size w w') : Own w' g t cs := (hb.block g h.lt).trans h
/-- but for block g the world is as it was -/
structure St (g : Nat) (w w' : World) : Prop where
  os : w'.os = w.os
  tape : w'.tape = w.tape
  output : w'.output = w.output
  size : w'.heap.size = w.heap.size
  block : ∀ k, k ≠ g → w'.heap[k]? = w.heap[k]?
theorem St.refl (g : Nat) (w : World) : St g w w := ⟨rfl, rfl, rfl, rfl, fun _ _ => rfl⟩
theorem St.trans {g : Nat} {a b c : World} (h : St g a b) (k : St g b c) : St g a c := ⟨k.os.trans h.os, k.tape.trans h.tape, k.output.trans h.output, k.size.trans h.size, fun x hx => (k.block x hx).trans (h.block x hx)⟩
theorem St.cellOf (w : World) (g i : Nat) (v : Value) : St g w (w.setCell ⟨g, i, none⟩ v) := ⟨rfl, rfl, rfl, by simp, fun k hk => Below.heap_setCell w ⟨g, i, none⟩ v k hk⟩
theorem St.row (w : World) (g : Nat) (cs : Array Value) : St g w (w.setRow g cs) := ⟨rfl, rfl, rfl, by simp, fun k hk => setRow_other w g k cs hk⟩
theorem St.below {g B : Nat} {w0 w w' : World} (h : St g w w') (hb : Below B w0 w) (hB : B ≤ g) : Below B w0 w' :=
  ⟨h.os.trans hb.os, h.tape.trans hb.tape, h.output.trans hb.output, by rw [h.size]; exact hb.size, fun k hk => (h.block k (by omega)).trans (hb.block k hk)⟩
theorem St.own {g k : Nat} {w w' : World} {t : TypeId} {cs : Array Value} (h : St g w w') (ho : Own w k t cs) (hk : k ≠ g) : Own w' k t cs := (h.block k hk).trans ho
theorem St.rs {g B n cap : Nat} {A : Option Addr} {w w' : World} {l : List ByteArray} (h : St g w w') (hr : RS w B A n cap l) (hg : g < B) : RS w' B A n cap l := by
  refine ⟨hr.1, hr.2.1, ?_⟩
  rcases hr.2.2 with h1 | ⟨g', c, cur, h1, h2, h3, h4⟩
  · exact .inl h1
  · exact .inr ⟨g', c, cur, h1, h2, (h.block g' (by omega)).trans h3, h4⟩
theorem _root_.Go.Proofs.YtambgmjiafcokaaDoor.Nm.RS.mono {w : World} {B B' n cap : Nat} {A : Option Addr} {l : List ByteArray} (hr : RS w B A n cap l) (hB : B' ≤ B) : RS w B' A n cap l := by
  refine ⟨hr.1, hr.2.1, ?_⟩
  rcases hr.2.2 with h1 | ⟨g', c, cur, h1, h2, h3, h4⟩
  · exact .inl h1
  · exact .inr ⟨g', c, cur, h1, by omega, h3, h4⟩
theorem ownBlock_some {A : Option Addr} {n cap k : Nat} (h : (Value.slice A n cap).ownBlock = some k) : ∃ o s, A = some ⟨k, o, s⟩ := by
  cases A with
  | none => simp [Value.ownBlock] at h
  | some a =>
    obtain ⟨b, o, s⟩ := a
    simp [Value.ownBlock] at h
    exact ⟨o, s, by rw [h]⟩
theorem RS.ne {w : World} {B n cap k : Nat} {A : Option Addr} {l : List ByteArray} {t : TypeId} {cs : Array Value} (hr : RS w B A n cap l) (ho : Nm.Own w k t cs) (ht : t ≠ 9) : some k ≠ (Value.slice A n cap).ownBlock := fun e => by
  obtain ⟨o, s, rfl⟩ := ownBlock_some e.symm
  rcases hr.2.2 with ⟨e', _⟩ | ⟨g', c, cur, e', _, hg, _⟩
  · cases e'
  · cases e'
    unfold Nm.Own at ho
    rw [hg] at ho
    cases ho
    exact ht rfl
theorem St.rsn {k B n cap : Nat} {A : Option Addr} {w w' : World} {l : List ByteArray} (h : St k w w') (hr : RS w B A n cap l) (hne : some k ≠ (Value.slice A n cap).ownBlock) : RS w' B A n cap l := by
  refine ⟨hr.1, hr.2.1, ?_⟩
  rcases hr.2.2 with h1 | ⟨g', c, cur, h1, h2, h3, h4⟩
  · exact .inl h1
  · exact .inr ⟨g', c, cur, h1, h2, (h.block g' (fun e => hne (by subst e; rw [h1]; rfl))).trans h3, h4⟩
theorem grow (w : World) (o : Obj) : Below w.heap.size w (w.alloc o) := (Below.refl _ _).alloc (Nat.le_refl _) _
theorem Tz.nil (w : World) : Tz w none 0 0 [] := ⟨⟨rfl, fun h => absurd h (by decide)⟩, fun _ => ⟨rfl, rfl⟩, by decide⟩
theorem grow2 (w : World) (o p : Obj) : Below w.heap.size w ((w.alloc o).alloc p) := (grow w o).alloc (by simp) _
theorem clone_any (A : Option Addr) (n cap : Nat) (l : List ByteArray) (w : World) (h : Tz w A n cap l) (hm5 : n ≤ 100000 := by omega) :
    Calls Tryd.prog 31 #[.slice A n cap] w fun e w' => (∃ A' c', e = .returned (.slice A' n c') ∧ RS w' w.heap.size A' n c' l) ∧ Below w.heap.size w w' := by
  cases A with
  | none =>
    obtain ⟨rfl, rfl⟩ := h.z rfl
    have : l = [] := List.length_eq_zero_iff.1 h.t.1
    subst this
    have q22 := fun (w : World) (a : Option Addr) (n c n' c' : Nat) => Lib.run_eql_slice_nil w _ _ a n c n' c' Tryd.underlying22
    go_enter Tryd.func31, Tryd.ntmps31
    go_wp2_with fail
    go_ret
    exact ⟨⟨none, 0, rfl, RS.nil _ _⟩, Below.refl _ _⟩
  | some a =>
    have hb := grow w (Obj.cells #[] 9)
    have h1 := h.below hb
    have r0 : RS (w.alloc (Obj.cells #[] 9)) w.heap.size (some ⟨w.heap.size, 0, none⟩) 0 0 [] := RS.empty (Own.new w 9 #[]) (Nat.le_refl _)
    have q22 := fun (w : World) (a : Option Addr) (n c n' c' : Nat) => Lib.run_eql_slice_nil w _ _ a n c n' c' Tryd.underlying22
    go_enter Tryd.func31, Tryd.ntmps31
    go_wp2_with (at_builtin; refine app_all rfl _ _ rfl w.heap.size _ _ rfl r0 _ _ _ _ rfl h1 (by simp) ?_)
    intro A' c' w' hr hb'
    go_wp2_with fail
    go_ret
    exact ⟨⟨A', c', rfl, hr⟩, hb.trans hb'⟩
theorem info5 : (Tryd.prog.info? 5).map (fun i => (i.zero, i.size, i.bytes)) = some (some (.int .u8 0), 1, 1) := by kernel_rfl
theorem made_one (v : Value) (n : Nat) : madeCells #[v] n = Array.replicate n v := by
  apply Array.ext
  · simp [madeCells]
  · intro i h1 h2
    simp [madeCells, Nat.mod_one]
theorem mk50 (n : Nat) (hn : n ≤ 1000) (w : World) : (Instr.makeSlice 78 (.int .i64 (n : Int)) (.int .i64 (n : Int))).run Tryd.prog w = .ok (.slice (some ⟨w.heap.size, 0, none⟩) n n) (w.alloc (.cells (Array.replicate n (.int .u8 0)) 5)) := by
  obtain ⟨i, hi, h1, h2, h3⟩ := info_parts info5
  have hr := run_make (P := Tryd.prog) w 78 5 i _ Tryd.underlying78 hi h1 .i64 .i64 n n (by omega) (by omega) (by rw [h3]; omega) (by omega)
  simp only [Int.toNat_natCast] at hr
  rw [hr, h2]
  show Result.ok _ (w.alloc (.cells (madeCells #[.int .u8 0] (n * 1)) 5)) = _
  rw [made_one, Nat.mul_one]
theorem conv50 (w : World) (g cap : Nat) (l : List UInt8) (h : ∀ j (hj : j < l.length), w.cell? ⟨g, j, none⟩ = some (.int .u8 (l[j].toNat : Int))) : (convert 78 9 (.slice (some ⟨g, 0, none⟩) l.length cap)).run Tryd.prog w = .ok (.string ⟨l.toArray⟩) w :=
  run_convert_bytes_back w 78 9 5 ⟨g, 0, none⟩ cap l Tryd.underlying78 Tryd.underlying5 Tryd.underlying9 (fun j hj => by rw [addr_add, Nat.zero_add]; exact h j hj)
def zs (n : Nat) : ByteArray := ⟨Array.replicate n 0⟩
theorem conv_rep (w : World) (g n cap : Nat) (b : UInt8) (h : Nm.Own w g 5 (Array.replicate n (.int .u8 (b.toNat : Int)))) : (convert 78 9 (.slice (some ⟨g, 0, none⟩) n cap)).run Tryd.prog w = .ok (.string ⟨Array.replicate n b⟩) w := by
  have := conv50 w g cap (List.replicate n b) (fun j hj => by
    rw [h.cell j]
    simp at hj
    simp [hj])
  rw [List.length_replicate] at this
  rw [this, List.toArray_replicate]
theorem conv_zs (w : World) (g n cap : Nat) (h : Nm.Own w g 5 (Array.replicate n (.int .u8 0))) : (convert 78 9 (.slice (some ⟨g, 0, none⟩) n cap)).run Tryd.prog w = .ok (.string (zs n)) w := conv_rep w g n cap 0 h
theorem info9s : (Tryd.prog.info? 9).map (·.size) = some 1 := by kernel_rfl
theorem mk22 (n : Nat) (hn : n ≤ 1000) (w : World) : (Instr.makeSlice 22 (.int .i64 (n : Int)) (.int .i64 (n : Int))).run Tryd.prog w = .ok (.slice (some ⟨w.heap.size, 0, none⟩) n n) (w.alloc (.cells (Array.replicate n (.string ⟨#[]⟩)) 9)) := by
  obtain ⟨i, hi, h1, h2, h3⟩ := info_parts info9
  have hr := run_make (P := Tryd.prog) w 22 9 i _ Tryd.underlying22 hi h1 .i64 .i64 n n (by omega) (by omega) (by rw [h3]; omega) (by omega)
  simp only [Int.toNat_natCast] at hr
  rw [hr, h2]
  show Result.ok _ (w.alloc (.cells (madeCells #[.string ⟨#[]⟩] (n * 1)) 9)) = _
  rw [made_one, Nat.mul_one]
/-- a row of n texts of which the first k are x -/
def rv (x : ByteArray) (n k : Nat) : Array Value := (List.replicate k (Value.string x) ++ List.replicate (n - k) (Value.string ⟨#[]⟩)).toArray
theorem rv_size {x : ByteArray} {n k : Nat} (h : k ≤ n) : (rv x n k).size = n := by simp [rv]; omega
theorem rv_zero (x : ByteArray) (n : Nat) : rv x n 0 = Array.replicate n (.string ⟨#[]⟩) := by
  unfold rv
  rw [show List.replicate 0 (Value.string x) = [] from rfl, List.nil_append, Nat.sub_zero, List.toArray_replicate]
theorem rv_copy {x : ByteArray} {n k m : Nat} (h : k + m ≤ n) : ((rv x n k).toList.take k ++ (List.replicate m (Value.string x) ++ (rv x n k).toList.drop (k + (List.replicate m (Value.string x)).length))).toArray = rv x n (k + m) := by
  unfold rv
  rw [List.toList_toArray, List.take_left' (by simp), List.length_replicate, List.drop_append, List.drop_of_length_le (by simp), List.nil_append, List.length_replicate, List.drop_replicate,
    ← List.append_assoc, List.replicate_append_replicate, show n - k - (k + m - k) = n - (k + m) from by omega]
theorem rv_at {x : ByteArray} {n k j : Nat} (h : j < k) : (rv x n k)[j]? = some (.string x) := by
  unfold rv
  rw [List.getElem?_toArray, List.getElem?_append_left (by simpa using h)]
  simp [h]
theorem rv_row {w : World} {B g n : Nat} {x : ByteArray} (h : Nm.Own w g 9 (rv x n n)) (hB : B ≤ g) (hn : n ≤ 1000) : RS w B (some ⟨g, 0, none⟩) n n (List.replicate n x) := by
  refine ⟨by simp, by simp, .inr ⟨g, n, rv x n n, rfl, hB, h, Nat.le_refl _, by unfold maxLen; omega, by rw [rv_size (Nat.le_refl _)]; omega, ?_⟩⟩
  unfold rv
  simp [sv]
theorem copy_rv (W : World) (g n k : Nat) (x : ByteArray) (h : Nm.Own W g 9 (rv x n k)) (a : Addr) (sLen sCap dCap m : Nat) (hm : m = Nat.min sLen (n - k)) (hk : k ≤ n) (hc : ∀ j, j < m → W.cell? (a.add j) = some (.string x)) (ty : TypeId) :
    (Builtin.copy_ #[22, 22] ty #[.slice (some ⟨g, k, none⟩) (n - k) dCap, .slice (some a) sLen sCap]).run Tryd.prog W = .ok (goInt m) (W.setRow g (rv x n (k + m))) := by
  have hm2 : k + m ≤ n := by
    have : m ≤ n - k := by rw [hm]; exact Nat.min_le_right _ _
    omega
  have e := run_copy_row (P := Tryd.prog) W 22 22 ty 9 g k (n - k) dCap a sLen sCap (rv x n k) 9 (List.replicate m (.string x)) Tryd.underlying22 info9s h (by simp [hm]) (fun j v hj => by
    have hjl : j < m := by simpa using (List.getElem?_eq_some_iff.1 hj).1
    rw [List.getElem?_replicate, if_pos hjl] at hj
    rw [← hj]
    exact hc j hjl) (by rw [rv_size hk, List.length_replicate]; exact hm2) (fun v hv => by rw [List.eq_of_mem_replicate hv]; rfl)
  rw [e, List.append_assoc, rv_copy hm2, List.length_replicate]
set_option maxHeartbeats 2000000 in
theorem repeat_any (x : ByteArray) (n g0 : Nat) (hn : n ≤ 1000) (w : World) (hc : w.cell? ⟨g0, 0, none⟩ = some (.string x)) :
    Calls Tryd.prog 35 #[.slice (some ⟨g0, 0, none⟩) 1 1, .int .i64 (n : Int)] w fun e w' => (∃ A c, e = .returned (.slice A n c) ∧ RS w' w.heap.size A n c (List.replicate n x)) ∧ Below w.heap.size w w' := by
  have hmul := fun wr => Tryd.bits_Mul 1 n (by omega) (by omega) wr
  rw [Nat.one_mul, Nat.div_eq_of_lt (show n < 18446744073709551616 by omega), Nat.mod_eq_of_lt (show n < 18446744073709551616 by omega)] at hmul
  have hmk := mk22 n hn w
  have u1 : IntKind.u64.wrap (n : Int) = (n : Int) := by rw [IntKind.wrap_u64]; omega
  have u2 : IntKind.i64.wrap (n : Int) = (n : Int) := IntWalk.i64_in _ (by omega)
  have o0 : Nm.Own (w.alloc (Obj.cells (Array.replicate n (.string ⟨#[]⟩)) 9)) w.heap.size 9 (rv x n 0) := by rw [rv_zero]; exact Nm.Own.new w 9 _
  have hb0 := grow w (Obj.cells (Array.replicate n (.string ⟨#[]⟩)) 9)
  have c0 := (hb0.cell (p := ⟨g0, 0, none⟩) (World.block_lt_of_cell? _ _ hc)).trans hc
  have t1 : ¬ (n : Int) < 0 := by omega
  have t2 : ¬ (9223372036854775807 : Int) < (n : Int) := by omega
  generalize hZ : (Array.replicate n (Value.string ⟨#[]⟩)) = Z at *
  go_enter Tryd.func35, Tryd.ntmps35
  go_wp2_with fail
  refine (hmul _).mono ?_
  rintro e w1 ⟨rfl, rfl⟩
  have t3 : ((0 : Nat) : Int) = 0 := rfl
  rw [t3]
  clear hmul t3
  obtain ⟨m, hm, hm2⟩ : ∃ m, m = Nat.min 1 (n - 0) ∧ (0 < n → 0 < m) := ⟨_, rfl, fun h => by rw [Nat.sub_zero]; exact Nat.lt_min.2 ⟨by decide, h⟩⟩
  have hmn : m ≤ n := by rw [hm, Nat.sub_zero]; exact Nat.min_le_right _ _
  have hm1 : m ≤ 1 := by rw [hm]; exact Nat.min_le_left _ _
  have hcp := copy_rv _ w1.heap.size n 0 x o0 ⟨g0, 0, none⟩ 1 1 n m hm (by omega) (fun j hj => by rw [addr_add]; (obtain rfl : j = 0 := (by omega)); exact c0) 3
  rw [Nat.sub_zero, Nat.zero_add] at hcp
  have o1 : Nm.Own ((w1.alloc (Obj.cells Z 9)).setRow w1.heap.size (rv x n m)) w1.heap.size 9 (rv x n m) := setRow_heap _ _ _ _ 9 (0, 0) o0
  have hb1 := (St.row (w1.alloc (Obj.cells Z 9)) w1.heap.size (rv x n m)).below hb0 (Nat.le_refl _)
  clear hm hm1 o0 hb0 c0 hc
  go_wp2_with fail
  generalize (w1.alloc (Obj.cells Z 9)).setRow w1.heap.size (rv x n m) = W1 at *
  go_loopw [8] (fun i wr => ∃ k : Nat, k ≤ n ∧ (0 < n → 0 < k) ∧ i = .int .i64 k ∧ Nm.Own wr w1.heap.size 9 (rv x n k) ∧ Below w1.heap.size w1 wr) (fun i _ => n - (intOf i).toNat)
  case atStart => exact ⟨m, hmn, hm2, rfl, o1, hb1⟩
  case round =>
    clear o1 hb1 hcp hmk
    obtain ⟨k, hk, hk0, rfl, o1, hb1⟩ := hrel
    by_cases hlt : k < n
    · have hlt' : (k : Int) < (n : Int) := by omega
      have hk1 := hk0 (by omega)
      obtain ⟨q, hq⟩ : ∃ q, q = Nat.min k (n - k) := ⟨_, rfl⟩
      have hq1 : 0 < q := by rw [hq]; exact Nat.lt_min.2 ⟨hk1, by omega⟩
      have hq2 : q ≤ n - k := by rw [hq]; exact Nat.min_le_right _ _
      have hq3 : q ≤ k := by rw [hq]; exact Nat.min_le_left _ _
      have HQ := Lib.hid hq
      clear hq
      have i1 : (k : Int) ≤ (n : Int) := by omega
      have i2 : ¬ n = k := by omega
      have w2 : IntKind.i64.wrap ((k : Int) + (q : Int)) = (k : Int) + (q : Int) := IntWalk.i64_in _ (by omega)
      generalize hg : w1.heap.size = g at *
      go_wp2_with fail
      refine wp_region_held_drew (S := fun w' => Below g w1 w') (by kernel_rfl) hb1.drew (fun hHeld => ?_)
      replace o1 : Nm.Own wr.drew g 9 (rv x n k) := o1
      clear hb1
      generalize wr.drew = W2 at *
      refine wpAnyH_take (i := 0) (oi := { dst := some 38, op := Op.move (Operand.tmp 8), type := _, pos := _, after := _, guard := _ }) (v := ?_) rfl (by kernel_rfl) (by kernel_rfl) (by kernel_rfl) (fun _ _ _ h => h) (Or.inl ⟨by rfl, ?_⟩) hHeld ?_
      rotate_left
      · intro wq hSw
        go_simp
        rfl
      try simp only [Act.put, List.setIfInBounds_toArray, List.set_cons_zero, List.set_cons_succ]
      refine wpAnyH_take (i := 1) (oi := { dst := some 39, op := Op.move (Operand.tmp 7), type := _, pos := _, after := _, guard := _ }) (v := ?_) rfl (by kernel_rfl) (by kernel_rfl) (by kernel_rfl) (fun _ _ _ h => h) (Or.inl ⟨by rfl, ?_⟩) hHeld ?_
      rotate_left
      · intro wq hSw
        go_simp
        rfl
      try simp only [Act.put, List.setIfInBounds_toArray, List.set_cons_zero, List.set_cons_succ]
      refine wpAnyH_take (i := 2) (oi := { dst := some 40, op := Op.move (Operand.tmp 8), type := _, pos := _, after := _, guard := _ }) (v := ?_) rfl (by kernel_rfl) (by kernel_rfl) (by kernel_rfl) (fun _ _ _ h => h) (Or.inl ⟨by rfl, ?_⟩) hHeld ?_
      rotate_left
      · intro wq hSw
        go_simp
        rfl
      try simp only [Act.put, List.setIfInBounds_toArray, List.set_cons_zero, List.set_cons_succ]
      refine wpAnyH_take (i := 3) (oi := { dst := some 41, op := Op.slice 22 (Operand.tmp 39) (some (Operand.tmp 40)) none none, type := _, pos := _, after := _, guard := _ }) (v := ?_) rfl (by kernel_rfl) (by kernel_rfl) (by kernel_rfl) (fun _ _ _ h => h) (Or.inl ⟨by rfl, ?_⟩) hHeld ?_
      rotate_left
      · intro wq hSw
        go_simp
        rfl
      try simp only [Act.put, List.setIfInBounds_toArray, List.set_cons_zero, List.set_cons_succ]
      refine wpAnyH_take (i := 4) (oi := { dst := some 42, op := Op.move (Operand.tmp 7), type := _, pos := _, after := _, guard := _ }) (v := ?_) rfl (by kernel_rfl) (by kernel_rfl) (by kernel_rfl) (fun _ _ _ h => h) (Or.inl ⟨by rfl, ?_⟩) hHeld ?_
      rotate_left
      · intro wq hSw
        go_simp
        rfl
      try simp only [Act.put, List.setIfInBounds_toArray, List.set_cons_zero, List.set_cons_succ]
      refine wpAnyH_take (i := 5) (oi := { dst := some 43, op := Op.move (Operand.tmp 8), type := _, pos := _, after := _, guard := _ }) (v := ?_) rfl (by kernel_rfl) (by kernel_rfl) (by kernel_rfl) (fun _ _ _ h => h) (Or.inl ⟨by rfl, ?_⟩) hHeld ?_
      rotate_left
      · intro wq hSw
        go_simp
        rfl
      try simp only [Act.put, List.setIfInBounds_toArray, List.set_cons_zero, List.set_cons_succ]
      refine wpAnyH_take (i := 6) (oi := { dst := some 44, op := Op.slice 22 (Operand.tmp 42) none (some (Operand.tmp 43)) none, type := _, pos := _, after := _, guard := _ }) (v := ?_) rfl (by kernel_rfl) (by kernel_rfl) (by kernel_rfl) (fun _ _ _ h => h) (Or.inl ⟨by rfl, ?_⟩) hHeld ?_
      rotate_left
      · intro wq hSw
        go_simp
        rfl
      try simp only [Act.put, List.setIfInBounds_toArray, List.set_cons_zero, List.set_cons_succ]
      refine wpAnyH_ready (rs := [7]) (by kernel_rfl) (by simp) ?_
      refine AllReadyH.cons (o := { dst := some 45, op := Op.call { callee := Callee.builtin Builtin.copy, args := #[Operand.tmp 41, Operand.tmp 44], argTypes := #[22, 22] }, type := _, pos := _, after := _, guard := _ }) rfl (fun KK hKK => ?_) AllReadyH.nil
      have hKS := Lib.hid hKK
      clear hKK
      have hcp := copy_rv W2 g n k x o1 ⟨g, 0, none⟩ k n (n - k) q HQ.out (by omega) (fun j hj => by rw [addr_add, o1.cell, Nat.zero_add]; exact rv_at (by omega)) 3
      go_simp
      have o3 : Nm.Own (W2.setRow g (rv x n (k + q))) g 9 (rv x n (k + q)) := setRow_heap _ _ _ _ 9 (0, 0) o1
      have hb3 := (St.row W2 g (rv x n (k + q))).below hHeld (Nat.le_refl _)
      refine hKS.out.out _ _ (by exact hb3) (fun hHeld => ?_)
      clear hKS KK hcp o1
      generalize W2.setRow g (rv x n (k + q)) = W7 at *
      try simp only [Act.put, List.setIfInBounds_toArray, List.set_cons_zero, List.set_cons_succ]
      refine wpAnyH_take (i := 8) (oi := { dst := some 46, op := Op.binOp BinOp.add 3 (Operand.tmp 38) (Operand.tmp 45) 3, type := _, pos := _, after := _, guard := _ }) (v := ?_) rfl (by kernel_rfl) (by kernel_rfl) (by kernel_rfl) (fun _ _ _ h => h) (Or.inl ⟨by rfl, ?_⟩) hHeld ?_
      rotate_left
      · intro wq hSw
        go_simp
        rfl
      try simp only [Act.put, List.setIfInBounds_toArray, List.set_cons_zero, List.set_cons_succ]
      refine wpAnyH_take (i := 9) (oi := { dst := some 8, op := Op.assign (Operand.tmp 46), type := _, pos := _, after := _, guard := _ }) (v := ?_) rfl (by kernel_rfl) (by kernel_rfl) (by kernel_rfl) (fun _ _ _ h => h) (Or.inl ⟨by rfl, ?_⟩) hHeld ?_
      rotate_left
      · intro wq hSw
        go_simp
        rfl
      try simp only [Act.put, List.setIfInBounds_toArray, List.set_cons_zero, List.set_cons_succ]
      refine wpAnyH_done (by kernel_rfl) ?_ _
      go_wp2_with fail
      go_roundw
      case rel => exact ⟨k + q, by omega, fun _ => by omega, by go_num, o3, hb3⟩
      case measure => simp [intOf]; omega
    · obtain rfl : k = n := by omega
      go_wp2_with fail
      go_ret
      exact ⟨⟨some ⟨w1.heap.size, 0, none⟩, k, rfl, rv_row o1 (Nat.le_refl _) hn⟩, hb1⟩
theorem step_app_text {w : World} {ops : Array Oper} {o : Oper} {a : Act} {K : Act → World → Prop} {Q : Exit → Act → World → Prop} {E : Prop} (hgd : o.guard = none) (s x : Operand)
    (ho : o.op = .call { callee := .builtin .append, args := #[s, x], argTypes := #[22, 22] })
    (B : Nat) (A : Option Addr) (n cap : Nat) (l : List ByteArray) (hs : a.eval s = .slice A n cap) (hr : RS w B A n cap l)
    (g1 c : Nat) (y : ByteArray) (hx : a.eval x = .slice (some ⟨g1, 0, none⟩) 1 c) (hy : w.cell? ⟨g1, 0, none⟩ = some (.string y)) (hn : n ≤ 100000) (hB : B ≤ w.heap.size) (H : Nat) (hH : w.heap.size = H)
    (h : ∀ g cap' w', RS w' B (some ⟨g, 0, none⟩) (n + 1) cap' (l ++ [y]) → Below B w w' →
      K (a.put o.dst (.slice (some ⟨g, 0, none⟩) (n + 1) cap')) w') : if Region.wanted o (yielded ops a.tmps) = true then Oper.wp Tryd.prog o a w K Q else E := by
  obtain ⟨i0, hi, hz0, hz1, hz2⟩ := info_parts info9
  refine step_append_lies w hgd s x 22 ho B 9 i0 (.string ⟨#[]⟩) 1 16 Tryd.underlying22 hi hz0 hz1 hz2 rfl (by decide) _ n (l.map sv) hs hr.2 ⟨g1, 0, none⟩ 1 c [sv y] hx rfl ?_ ?_ (by omega)
    (by unfold maxLen; omega) (by omega) hB H hH ?_
  · intro j u hu
    match j, hu with
    | 0, hu => simp at hu; subst hu; exact hy
    | j + 1, hu => simp at hu
  · intro u hu
    simp at hu
    subst hu
    rfl
  · intro g cap' w' h1 h2 h3 _
    refine h g cap' w' ⟨by simp [hr.1], by simpa [sv] using h1⟩ ?_
    refine (Below.refl B w).grown h2 hB fun k hk => ?_
    exact (hr.2.lt k hk).1
end Dw
end Go.Proofs.YtambgmjiafcokaaDoor
