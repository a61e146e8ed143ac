/-
  THE WALK of the code's finder, and of its Pack.
-/
import Derived.Test.YtoggibooinhomaaDoorZLg
import Derived.Test.YtoggibooinhomaaDoorZLp
import Derived.Deep.OwnRows
namespace Go.Proofs.YtoggibooinhomaaDoor.Z
open Go.RowKit Go.Maps
set_option linter.unusedVariables false
set_option linter.unusedSimpArgs false
theorem info3 : (Tryd.prog.info? 3).map (fun i => (i.zero, i.size, i.bytes)) = some (some (.int .i64 0), 1, 8) := by kernel_rfl
/-- the function that searches -/
def fnV (N : Nat) : Value := .func (.func 20) #[] #[.pointer (some ⟨N + 7, 0, none⟩), .pointer (some ⟨N, 0, none⟩), .pointer (some ⟨N + 3, 0, none⟩), .pointer (some ⟨N + 5, 0, none⟩), .pointer (some ⟨N + 1, 0, none⟩)]
theorem al_heap (w : World) : ∀ os : List Obj, (os.foldl World.alloc w).heap = w.heap ++ os.toArray := by
  intro os
  induction os generalizing w with
  | nil => simp
  | cons o os ih =>
    rw [List.foldl_cons, ih]
    show w.heap.push o ++ os.toArray = _
    simp
theorem al_get (w : World) (os : List Obj) (i : Nat) : (os.foldl World.alloc w).heap[w.heap.size + i]? = os[i]? := by
  rw [al_heap, Array.getElem?_append_right (by omega)]
  simp
theorem al_size (w : World) (os : List Obj) : (os.foldl World.alloc w).heap.size = w.heap.size + os.length := by rw [al_heap]; simp
theorem al_below (w : World) : ∀ os : List Obj, Below w.heap.size w (os.foldl World.alloc w) := by
  intro os
  induction os generalizing w with
  | nil => exact Below.refl _ _
  | cons o os ih =>
    have h1 : Below w.heap.size w (w.alloc o) := (Below.refl _ _).alloc (Nat.le_refl _) o
    exact h1.trans ((ih (w.alloc o)).mono h1.size)
theorem al_own (w : World) (os : List Obj) (i : Nat) {cs : Array Value} {t : TypeId} (h : os[i]? = some (.cells cs t (0, 0))) : Own (os.foldl World.alloc w) (w.heap.size + i) t cs := (al_get w os i).trans h
def finObs (N : Nat) (s : ByteArray) : List Obj := [.cells #[.string s] 9, .cells #[.func (.func 18) #[] #[.pointer (some ⟨N, 0, none⟩)]] 49, .map #[] 0, .cells #[.map (some (N + 2))] 50, .cells (madeCells #[.int .i64 0] s.size) 3,
  .cells #[.slice (some ⟨N + 4, 0, none⟩) s.size s.size] 51, .cells #[.int .i64 0] 3, .cells #[.func (.func 19) #[] #[.pointer (some ⟨N + 6, 0, none⟩), .pointer (some ⟨N, 0, none⟩), .pointer (some ⟨N + 3, 0, none⟩), .pointer (some ⟨N + 5, 0, none⟩)]] 52]
theorem fd_start (w : World) (s : ByteArray) : Fd ((finObs w.heap.size s).foldl World.alloc w) w.heap.size s 0 := by
  have H := fun (i : Nat) (cs : Array Value) (t : TypeId) (h : (finObs w.heap.size s)[i]? = some (.cells cs t (0, 0))) => al_own w (finObs w.heap.size s) i h
  refine ⟨(H 0 _ _ rfl).cell 0, (H 1 _ _ rfl).cell 0, ⟨.map [], ?_, lasts_nil _⟩, (H 3 _ _ rfl).cell 0, ⟨_, H 4 _ _ rfl, ?_⟩, (H 5 _ _ rfl).cell 0, H 6 _ _ rfl, (H 7 _ _ rfl).cell 0, Nat.zero_le _⟩
  · exact ⟨#[], 0, al_get w (finObs w.heap.size s) 2, ⟨by simp, MapKept.stamped_empty 0, by simp⟩, Nat.le_refl _, rfl⟩
  · refine ⟨by rw [size_madeCells, toL_len], fun j hj => by omega, fun j hj => ⟨0, ?_⟩⟩
    rw [toL_len] at hj
    rw [← Array.getElem?_toList, toList_madeCells_one, List.getElem?_replicate, if_pos hj]
set_option maxRecDepth 100000 in
set_option maxHeartbeats 1000000 in
theorem finder_any (s : ByteArray) (w : World) (hs : s.size ≤ 1000000) :
    Calls Tryd.prog 12 #[.string s] w fun e w' => e = .returned (fnV w.heap.size) ∧ Fd w' w.heap.size s 0 ∧ Below w.heap.size w w' ∧ w'.heap.size = w.heap.size + 8 := by
  have hmm := @run_makeMap Tryd.prog
  have hmk := fun w => run_make_row' 51 3 (.int .i64 0) 8 Tryd.underlying51 info3 rfl .i64 .i64 s.size (by omega) (by omega) w
  go_enter Tryd.func12, Tryd.ntmps12
  go_wp2_with fail
  go_ret
  refine ⟨rfl, fd_start w s, al_below w (finObs w.heap.size s), al_size w (finObs w.heap.size s)⟩
/-- three bytes more -/
theorem app_three {ops : Array Oper} {rest : List Oper} {o : Oper} {a : Act} {Q : Exit → Act → World → Prop} (hgd : o.guard = none) (s x : Operand)
    (ho : o.op = .call { callee := .builtin .append, args := #[s, x], argTypes := #[36, 36] })
    (B : Nat) (v : Value) (l : List UInt8) (hs : a.eval s = v) (W0 w0 : World) (c0 c1 c2 : Int) (b0 b1 b2 : UInt8) (hc0 : c0 = b0.toNat) (hc1 : c1 = b1.toNat) (hc2 : c2 = b2.toNat) (hb : Buf B v l W0 w0)
    (hx : a.eval x = .slice (some ⟨w0.heap.size, 0, none⟩) 3 3) (hlen : l.length + 3 ≤ 140737488355328)
    (h : ∀ v' w', Buf B v' (l ++ [b0, b1, b2]) W0 w' → wpList Tryd.prog ops Q rest (a.put o.dst v') w') : wpList Tryd.prog ops Q (o :: rest) a (w0.alloc (.cells #[.int .u8 c0, .int .u8 c1, .int .u8 c2] 5)) := by
  subst hc0 hc1 hc2
  obtain ⟨i0, hi, hz0, hz1, hz2⟩ := info_parts info5
  have hb' : Lib.OwnBuf B 5 v l.length (bc l) W0 (w0.alloc (.cells #[.int .u8 b0.toNat, .int .u8 b1.toNat, .int .u8 b2.toNat] 5)) := Lib.OwnBuf.alloc hb _
  have ho : Own (w0.alloc (.cells #[.int .u8 b0.toNat, .int .u8 b1.toNat, .int .u8 b2.toNat] 5)) w0.heap.size 5 #[.int .u8 b0.toNat, .int .u8 b1.toNat, .int .u8 b2.toNat] := al_own w0 [.cells #[.int .u8 b0.toNat, .int .u8 b1.toNat, .int .u8 b2.toNat] 5] 0 rfl
  refine wpList_append_ownF _ hgd s x 36 ‹_› B 5 i0 (.int .u8 0) 1 1 Tryd.underlying36 hi hz0 hz1 hz2 rfl (by decide) v l.length (bc l) hs hb'.1 ⟨w0.heap.size, 0, none⟩ 3 3 [.int .u8 b0.toNat, .int .u8 b1.toNat, .int .u8 b2.toNat] hx rfl ?_ ?_ (by unfold maxLen; omega) (by omega) hb'.2.2 ?_
  · intro j u hj
    match j, hj with
    | 0, hj => simp at hj; subst hj; exact ho.cell 0
    | 1, hj => simp at hj; subst hj; exact ho.cell 1
    | 2, hj => simp at hj; subst hj; exact ho.cell 2
    | (j + 3), hj => simp at hj
  · intro u hu; simp at hu; rcases hu with rfl | rfl | rfl <;> rfl
  · intro v' w' ho' hg _
    refine h v' w' ?_
    have := hb'.grown ho' hg
    unfold Buf
    rw [bc_append, List.length_append]
    exact this
theorem Buf.re {B : Nat} {v : Value} {l : List UInt8} {W0 w : World} (h : Buf B v l W0 w) : Buf B v l w w := ⟨h.1, Below.refl _ _, h.2.2⟩
theorem Fd.below {w w' : World} {N m B : Nat} {s : ByteArray} (h : Fd w N s m) (hb : Below B w w') (hB : N + 8 ≤ B) : Fd w' N s m := by
  have c : ∀ k v, k < N + 8 → w.cell? ⟨k, 0, none⟩ = some v → w'.cell? ⟨k, 0, none⟩ = some v := fun k v hk hv => (hb.cell (p := ⟨k, 0, none⟩) (by show k < B; omega)).trans hv
  have o : ∀ k t cs, k < N + 8 → Own w k t cs → Own w' k t cs := fun k t cs hk hv => (hb.block k (by omega)).trans hv
  obtain ⟨D, hown, hD⟩ := h.hm
  obtain ⟨cs, hcs, hch⟩ := h.hr
  refine ⟨c _ _ (by omega) h.hs, c _ _ (by omega) h.hf, ⟨D, ?_, hD⟩, c _ _ (by omega) h.hl, ⟨cs, o _ _ _ (by omega) hcs, hch⟩, c _ _ (by omega) h.hp, o _ _ _ (by omega) h.hk, c _ _ (by omega) h.hn, h.le⟩
  obtain ⟨es, clock, hb1, F, hs1, hD1⟩ := hown
  exact ⟨es, clock, (hb.block _ (by omega)).trans hb1, F, hs1, hD1⟩
/-- what is put, and what is to come -/
def PkIs (l : List UInt8) (out : List UInt8) (i r : Nat) : Prop := out ++ Lz.pka l i r = Lz.pack l
theorem pk_out {l out : List UInt8} {i r : Nat} (h : PkIs l out i r) : out.length ≤ l.length + (l.length + 127) / 128 := by
  have := congrArg List.length h
  have h2 := Lz.pack_len l
  rw [List.length_append] at this
  omega
theorem pk_end {l out : List UInt8} {i r : Nat} (h : PkIs l out i r) (hi : l.length ≤ i) : out ++ Lz.run (l.drop r) = Lz.pack l := by
  unfold PkIs at h
  rw [Lz.pka_end l i r hi] at h
  exact h
theorem pk_one {l out : List UInt8} {i r : Nat} (h : PkIs l out i r) (hi : i < l.length) (hb : (Lz.best l i).1 < 4) : PkIs l out (i + 1) r := by
  unfold PkIs at h ⊢
  rw [Lz.pka_one l i r hi hb] at h
  exact h
theorem pk_copy {l out : List UInt8} {i r : Nat} (h : PkIs l out i r) (hi : i < l.length) (hb : ¬ (Lz.best l i).1 < 4) : PkIs l (out ++ Lz.run (Lz.seg l r i) ++ Lz.cop (Lz.best l i).1 (Lz.best l i).2) (i + (Lz.best l i).1) (i + (Lz.best l i).1) := by
  unfold PkIs at h ⊢
  rw [Lz.pka_copy l i r hi hb] at h
  rw [← h]
  simp
theorem toL_seg (s : ByteArray) (r i : Nat) (hi : i ≤ s.size) : toL (s.extract r i) = Lz.seg (toL s) r i := toL_extract s r i hi
set_option maxRecDepth 100000 in
set_option maxHeartbeats 2000000 in
theorem pack_any (s : ByteArray) (w : World) (hs : s.size ≤ 10000) :
    Calls Tryd.prog 8 #[.string s] w fun e w' => e = .returned (.string (ofL (Lz.pack (toL s)))) ∧ Below w.heap.size w w' := by
  obtain ⟨N, hN⟩ : ∃ N, N = w.heap.size := ⟨_, rfl⟩
  rw [← hN]
  go_enter Tryd.func8, Tryd.ntmps8
  go_wp2_with fail
  refine (finder_any s _ (by omega)).mono ?_
  rintro e w1 ⟨rfl, hF, hB, hsz⟩
  rw [← hN] at hF hB hsz ⊢
  have HN := Lib.hid hN
  clear hN
  have HSZ := Lib.hid hsz
  clear hsz
  have hb0 : Buf (N + 8) (.slice none 0 0) [] w1 w1 := Buf.nil _ _ (by have := HSZ.out; omega)
  go_wp2_with fail
  go_loopw [3, 5, 6] (fun o r i wr => ∃ (v : Value) (l : List UInt8) (rr ii m : Nat), o = v ∧ r = .int .i64 rr ∧ i = .int .i64 ii ∧ rr ≤ ii ∧ ii ≤ s.size ∧ m ≤ ii ∧ Hid (Fd wr N s m) ∧ Buf (N + 8) v l wr wr ∧ Below N w wr ∧ Hid (PkIs (toL s) l ii rr)) (fun _ _ i _ => s.size - (intOf i).toNat)
  case atStart => exact ⟨_, [], 0, 0, 0, rfl, rfl, rfl, Nat.le_refl _, Nat.zero_le _, Nat.le_refl _, hF, hb0, hB, rfl⟩
  case round =>
    obtain ⟨v, l, r, i, m, rfl, rfl, rfl, hri, hi, hm, hFd, hbuf, hbel, hP⟩ := hrel
    have hlen := pk_out hP.out
    rw [toL_len] at hlen
    by_cases c1 : i < s.size
    · unfold fnV
      by_cases c2 : (Lz.best (toL s) i).1 < 4
      · have HP := Lib.hid (pk_one hP.out (by rw [toL_len]; exact c1) c2)
        have hfn := Lz.fnd_no _ _ c2
        clear hP c2
        go_wp2_with fail
        refine (found_any N s m i _ hFd.out (by omega) hm (by omega)).mono ?_
        rintro e w2 ⟨rfl, hC, m', hF2, hm2⟩
        rw [hfn]
        dsimp only
        have hb2 := hC.buf (B := N + 8) (fun k hk => by rcases hk with h | h | h <;> omega) hbuf
        go_wp2_with fail
        go_roundw
        case rel => exact ⟨_, l, r, i + 1, m', rfl, rfl, by go_num, by omega, by omega, by omega, hF2, hb2, hbel.trans (hC.below fun k hk => ⟨by have := hbel.size; have := HN.out; omega, not_mv (by omega) (by omega) (by omega)⟩), HP⟩
        case measure => simp [intOf]; omega
      · obtain ⟨b1, b2, b3, b4, b5, -⟩ := Lz.best_ok _ _ c2
        rw [toL_len] at b2
        have hfn : Lz.fnd (toL s) i = ((Lz.best (toL s) i).1, (Lz.best (toL s) i).2) := Lz.fnd_yes _ _ c2
        have HP := Lib.hid (pk_copy hP.out (by rw [toL_len]; exact c1) c2)
        have hn4 : 4 ≤ (Lz.best (toL s) i).1 := by omega
        have hseg := toL_seg s r i hi
        have HZ : Hid ((s.extract r i).size = i - r) := Lib.hid (by rw [ByteArray.size_extract]; omega)
        have HL := Lib.hid hlen
        have HR : Hid ((Lz.run (Lz.seg (toL s) r i)).length ≤ 20000) := Lib.hid (by
          rw [Lz.run_length _ _ (Nat.le_refl _), ← hseg, toL_len, HZ.out]; omega)
        clear hP c2 hlen
        generalize (Lz.best (toL s) i).1 = n at *
        generalize (Lz.best (toL s) i).2 = far at *
        go_wp2_with fail
        refine (found_any N s m i _ hFd.out (by omega) hm (by omega)).mono ?_
        rintro e w2 ⟨rfl, hC, m', hF2, hm2⟩
        rw [hfn]
        dsimp only
        have hb2 := hC.buf (B := N + 8) (fun k hk => by rcases hk with h | h | h <;> omega) hbuf
        have hbel2 := hbel.trans (hC.below fun k hk => ⟨by have := hbel.size; have := HN.out; omega, not_mv (by omega) (by omega) (by omega)⟩)
        clear hbuf hbel hfn hC
        go_wp2_with fail
        refine (putRuns_any (N + 8) u3 l w2 w2 (s.extract r i) hb2 (by have := HZ.out; omega) (by have := HL.out; omega)).mono ?_
        rintro e w3 ⟨v3, rfl, hb3⟩
        rw [hseg] at hb3
        have hbel3 := hbel2.trans (hb3.below.mono (by omega))
        have hF3 := hF2.below hb3.below (Nat.le_refl _)
        replace hb3 := hb3.re
        have t0 : IntKind.u8.wrap ((n : Int) + 124) = (n : Int) + 124 := by rw [IntKind.wrap_u8']; omega
        have q0 : Hid ((n : Int) + 124 = ((UInt8.ofNat (n + 124)).toNat : Int)) := Lib.hid (by rw [UInt8.toNat_ofNat']; omega)
        clear hseg hb2 hF2 hbel2
        have q1 : Hid ((far : Int) % 256 = ((UInt8.ofNat (far % 256)).toNat : Int)) := Lib.hid (by rw [UInt8.toNat_ofNat']; omega)
        have q2 : Hid ((far : Int) / 256 = ((UInt8.ofNat (far / 256)).toNat : Int)) := Lib.hid (by rw [UInt8.toNat_ofNat']; omega)
        go_wp2_with (at_builtin; go_must (refine app_three rfl (.tmp 31) (.tmp 40) rfl (N + 8) _ (l ++ Lz.run (Lz.seg (toL s) r i)) rfl w3 w3 _ _ _ (UInt8.ofNat (n + 124)) (UInt8.ofNat (far % 256)) (UInt8.ofNat (far / 256)) q0.out q1.out q2.out hb3 rfl (by have := HL.out; have := HR.out; rw [List.length_append]; omega) ?_; intro v4 w4 hb4))
        go_roundw
        case rel => exact ⟨_, _, i + n, i + n, m', rfl, by go_num, by go_num, Nat.le_refl _, b2, by omega, hF3.below hb4.below (Nat.le_refl _), hb4.re, hbel3.trans (hb4.below.mono (by omega)), HP⟩
        case measure => simp [intOf]; omega
    · have HE := Lib.hid (pk_end hP.out (by rw [toL_len]; omega))
      have hseg : toL (s.extract r s.size) = (toL s).drop r := by rw [toL_extract _ _ _ (Nat.le_refl _), ← toL_len s, List.take_length]
      have HZ : Hid ((s.extract r s.size).size = s.size - r) := Lib.hid (by rw [ByteArray.size_extract]; omega)
      have HL := Lib.hid hlen
      clear hP hlen
      have r1 : (r : Int) ≤ (s.size : Int) := by omega
      go_wp2_with fail
      refine (putRuns_any (N + 8) u3 l wr wr (s.extract r s.size) hbuf (by have := HZ.out; omega) (by have := HL.out; omega)).mono ?_
      rintro e w3 ⟨v3, rfl, hb3⟩
      rw [hseg, HE.out] at hb3
      have cv := conv_buf hb3
      clear hseg
      go_wp2_with fail
      go_ret
      exact ⟨rfl, hbel.trans (hb3.below.mono (by omega))⟩
end Go.Proofs.YtoggibooinhomaaDoor.Z
