/-
  An end of a channel as a box of cells: its laws.
-/
import Derived.Test.YtaoaebdjinlcnaaDoorSo
import Derived.OpenShut
import Derived.Lib.ConvBytes
import Derived.Test.YtaoaebdjinlcnaaDoorUNx
import Derived.Test.YtaoaebdjinlcnaaDoorUNp
import Derived.Laws.StructEq
import Derived.Deep.MidRow
set_option linter.unusedVariables false
set_option linter.unusedSimpArgs false
set_option maxRecDepth 100000
namespace Go.Proofs.YtaoaebdjinlcnaaDoor
open Go.RowKit
theorem tn_inj {a b : ByteArray} (h : tn a = tn b) : a = b := by rw [← bs_tn a, h, bs_tn]
theorem left_cut (a b : ByteArray) (n : Nat) (hn : n = a.size) : (a ++ b).extract 0 n = a := tn_inj (by
  rw [tn_extract, tn_append, List.drop_zero, hn, ← tn_length, List.take_left' rfl])
theorem right_cut (a b : ByteArray) (n m : Nat) (hn : n = a.size) (hm : m = (a ++ b).size) : (a ++ b).extract n m = b := tn_inj (by
  rw [tn_extract, hm, List.take_of_length_le (by rw [tn_length]; exact Nat.le_refl _), tn_append, hn, ← tn_length, List.drop_left' rfl])
theorem strm_twice (K N : List Nat) (d : ByteArray) : strm K N (strm K N d) = d := by
  unfold strm
  exact Ci.twice _ _ _ _
theorem tagD_by (K : List Nat) (h b : ByteArray) : Bl.By (tagD K h b) := keyed_by _ _
theorem tn_box {K N : List Nat} {h d : ByteArray} (bN : Bl.By N) : tn (boxD K N h d) = N ++ (tn (strm K N d) ++ tagD K h (bodyD K N d)) := by
  have e : tn (bodyD K N d) = N ++ tn (strm K N d) := by rw [bodyD, tn_append, tn_bs bN]
  rw [boxD, tn_append, e, tn_bs (tagD_by _ _ _), List.append_assoc]
theorem nonD_box {K N : List Nat} {h d : ByteArray} (bN : Bl.By N) (lN : N.length = 12) : nonD (boxD K N h d) = N := by
  rw [nonD, tn_box bN, List.append_assoc, List.take_left' lN]
theorem mid_box {K N : List Nat} {h d : ByteArray} (bN : Bl.By N) (lN : N.length = 12) : (boxD K N h d).extract 12 ((boxD K N h d).size - 32) = strm K N d := tn_inj (by
  rw [tn_extract, tn_box bN, boxD_size lN, List.take_append, List.take_of_length_le (by rw [lN]; omega), List.drop_left' lN, List.take_left' (by rw [tn_length, strm_size]; omega)])
theorem open_seal {K N : List Nat} {h d : ByteArray} (bN : Bl.By N) (lN : N.length = 12) : openD K h (boxD K N h d) = (d, 0) := by
  have z := boxD_size (K := K) (h := h) (d := d) lN
  have zB := bodyD_size (K := K) (d := d) lN
  rw [openD, if_neg (by omega)]
  have e1 : (boxD K N h d).extract 0 ((boxD K N h d).size - 32) = bodyD K N d := left_cut _ _ _ (by omega)
  have e2 : (boxD K N h d).extract ((boxD K N h d).size - 32) (boxD K N h d).size = bs (tagD K h (bodyD K N d)) := right_cut _ _ _ _ (by omega) rfl
  rw [e1, e2, if_pos rfl, nonD_box bN lN, mid_box bN lN, strm_twice]
/-- the key of the example -/
def k1 : List Nat := 1 :: List.replicate 31 0
def n0 : List Nat := List.replicate 12 0
theorem k1_by : Bl.By k1 := by unfold Bl.By; decide
theorem n0_by : Bl.By n0 := by unfold Bl.By; decide
end Go.Proofs.YtaoaebdjinlcnaaDoor
set_option linter.unusedVariables false
set_option linter.unusedSimpArgs false
set_option maxRecDepth 100000
namespace Go.Proofs.YtaoaebdjinlcnaaDoor
open Go.RowKit
theorem okNon {W : World} {base : Nat} {v : Value} (h : Value.okWide Tryd.prog W .any base 54 v) : ∃ K : List Nat, v = .agg (vs .u8 K) ∧ K.length = 12 ∧ Bl.By K := okArr tN (by kernel_rfl) (by kernel_rfl) h
/-- two keys lie in the call's first two blocks -/
structure Kk (w wr : World) (K L : List Nat) : Prop where
  k : Own wr w.heap.size 24 (vs .u8 K)
  l : Own wr (w.heap.size + 1) 24 (vs .u8 L)
  b : Below w.heap.size w wr
theorem Kk.below {w wr w1 : World} {K L : List Nat} (o : Kk w wr K L) (hx : Below wr.heap.size wr w1) : Kk w w1 K L := ⟨Below.own hx o.k o.k.lt, Below.own hx o.l o.l.lt, o.b.trans (hx.mono o.b.size)⟩
theorem Kk.new (w : World) (K L : List Nat) : Kk w ((w.alloc (Obj.cells (vs .u8 K) 24)).alloc (Obj.cells (vs .u8 L) 24)) K L :=
  ⟨(Own.new _ _ _).alloc _, Own.new' _ _ _ (by simp), ((Below.refl _ w).alloc (Nat.le_refl _) _).alloc (by simp) _⟩
/-- where a box is refused, no data come out -/
theorem openD_none (K : List Nat) (h x : ByteArray) : (openD K h x).2 = 0 ∨ (openD K h x).1 = ⟨#[]⟩ := by
  unfold openD
  split
  · exact .inr rfl
  · split
    · exact .inl rfl
    · exact .inr rfl
theorem eq_arrN (L M : List Nat) (hl : L.length = 12) (hm : M.length = 12) (w : World) : (Op.equalIn 10000 54 (.agg (vs .u8 L)) (.agg (vs .u8 M))).run Tryd.prog w = .ok (decide (L = M)) w := by
  obtain ⟨i, hi, _⟩ := Option.map_eq_some_iff.1 info5b
  rw [show (10000 : Nat) = 9999 + 1 from rfl, run_equalIn_array (w := w) 9999 (vs .u8 L) (vs .u8 M) Tryd.underlying54 hi, show Tryd.prog.cellsOf 5 = 1 from by kernel_rfl]
  rw [eq_items L M 9998 w (by omega) _ fun j hj => by rw [hl]; exact List.mem_range.1 hj]
  have := nth_ext (L := L) (M := M) (by omega)
  rw [hl] at this
  simp only [this]
theorem exec_eqN (L M : List Nat) (hl : L.length = 12) (hm : M.length = 12) (w : World) (ρ : Operand → Value) (x y : Operand) (hx : ρ x = .agg (vs .u8 L)) (hy : ρ y = .agg (vs .u8 M)) (o : Oper) (ho : o.op = .binOp .eql 54 x y 54) : (execOp ρ o).run Tryd.prog w = .ok (.value (.bool (decide (L = M)))) w := by
  have hq := eq_arrN L M hl hm
  have hg := run_eqGuard_agg (P := Tryd.prog) (w := w) .eql 54 x y (vs .u8 L) (vs .u8 M) (by kernel_rfl)
  have hb : (binOp .eql 54 (.agg (vs .u8 L)) (.agg (vs .u8 M))).run Tryd.prog w = .ok (.bool (decide (L = M))) w := by
    show (do pure (Value.bool (← Op.equal 54 (.agg (vs .u8 L)) (.agg (vs .u8 M)))) : Sem Value).run Tryd.prog w = _
    simp only [Sem.run_bind]
    rw [show (Op.equal 54 (Value.agg (vs .u8 L)) (Value.agg (vs .u8 M))) = Op.equalIn 10000 54 (.agg (vs .u8 L)) (.agg (vs .u8 M)) from rfl, hq w]
    simp
  unfold execOp
  simp only [ho, hx, hy, Sem.run_bind, hg, hb, Result.andThen_ok, Sem.run_pure]
theorem exec_sameN (L : List Nat) (hl : L.length = 12) (w : World) (ρ : Operand → Value) (x y : Operand) (hx : ρ x = .agg (vs .u8 L)) (hy : ρ y = .agg (vs .u8 L)) (o : Oper) (ho : o.op = .binOp .eql 54 x y 54) : (execOp ρ o).run Tryd.prog w = .ok (.value (.bool true)) w := by
  have := exec_eqN L L hl hl w ρ x y hx hy o ho
  simpa using this
/-- the key in the call's first block, a nonce in one of its own -/
structure Kn (w wr : World) (K : List Nat) (g : Nat) (M : List Nat) : Prop where
  k : Own wr w.heap.size 24 (vs .u8 K)
  n : Own wr g 54 (vs .u8 M)
  b : Below w.heap.size w wr
theorem Kn.below {w wr w1 : World} {K M : List Nat} {g : Nat} (o : Kn w wr K g M) (hx : Below wr.heap.size wr w1) : Kn w w1 K g M := ⟨Below.own hx o.k o.k.lt, Below.own hx o.n o.n.lt, o.b.trans (hx.mono o.b.size)⟩
theorem Kn.drew {w wr : World} {K M : List Nat} {g : Nat} (o : Kn w wr K g M) : Kn w wr.drew K g M := ⟨o.k, o.n, o.b.drew⟩
theorem box_front {K N : List Nat} {h d : ByteArray} (bN : Bl.By N) (lN : N.length = 12) : (boxD K N h d).extract 0 12 = bs N := tn_inj (by
  rw [tn_extract, tn_box bN, List.drop_zero, List.take_left' lN, tn_bs bN])
end Go.Proofs.YtaoaebdjinlcnaaDoor
set_option linter.unusedVariables false
set_option linter.unusedSimpArgs false
set_option maxRecDepth 100000
namespace Go.Proofs.YtaoaebdjinlcnaaDoor
open Go.RowKit
/-- bytes in a block of their own, that may be written -/
def Bt (W : World) (g : Nat) (L : List Nat) : Prop :=
  ∃ cs lo hi, W.heap[g]? = some (.cells cs 5 (lo, hi)) ∧ L.length ≤ lo ∧ L.length ≤ cs.size ∧ ∀ j, j < L.length → cs[j]? = some (.int .u8 (Bl.nth L j : Nat))
theorem Bt.lt {W : World} {g : Nat} {L : List Nat} (h : Bt W g L) : g < W.heap.size := by
  obtain ⟨cs, lo, hi, h1, _⟩ := h
  rcases Nat.lt_or_ge g W.heap.size with h' | h'
  · exact h'
  · rw [Array.getElem?_eq_none h'] at h1; cases h1
theorem Bt.cell {W : World} {g : Nat} {L : List Nat} (h : Bt W g L) {j : Nat} (hj : j < L.length) : W.cell? ⟨g, j, none⟩ = some (.int .u8 (Bl.nth L j : Nat)) := by
  obtain ⟨cs, lo, hi, h1, _, _, h4⟩ := h
  simp [World.cell?, h1, h4 j hj]
theorem Bt.frozen {W : World} {g : Nat} {L : List Nat} (h : Bt W g L) {j : Nat} (hj : j < L.length) : W.frozen? ⟨g, j, none⟩ = false := by
  obtain ⟨cs, lo, hi, h1, h2, _⟩ := h
  simp [World.frozen?, h1]; omega
theorem Bt.below {W W' : World} {g : Nat} {L : List Nat} (h : Bt W g L) (hx : Below W.heap.size W W') : Bt W' g L := by
  obtain ⟨cs, lo, hi, h1, h2⟩ := h
  exact ⟨cs, lo, hi, by rw [hx.block g (Bt.lt ⟨cs, lo, hi, h1, h2⟩)]; exact h1, h2⟩
theorem Bt.set {W : World} {g : Nat} {L : List Nat} (h : Bt W g L) (i x : Nat) : Bt (W.setCell ⟨g, i, none⟩ (.int .u8 (x : Int))) g (L.set i x) := by
  obtain ⟨cs, lo, hi, h1, h2, h3, h4⟩ := h
  refine ⟨cs.setIfInBounds i (.int .u8 (x : Int)), lo, hi, by simp [World.setCell, Array.getElem?_modify, h1], by simpa using h2, by simpa using h3, fun j hj => ?_⟩
  rw [List.length_set] at hj
  rw [Array.getElem?_setIfInBounds]
  unfold Bl.nth
  rw [List.getD_eq_getElem?_getD, List.getElem?_set]
  by_cases e : i = j
  · subst e
    simp [show i < cs.size by omega, hj]
  · have := h4 j hj
    unfold Bl.nth at this
    rw [List.getD_eq_getElem?_getD] at this
    simp [e, this]
theorem Bt.conv {W : World} {g : Nat} {L : List Nat} (h : Bt W g L) (n c : Nat) (hn : n ≤ L.length) : (convert 45 9 (.slice (some ⟨g, 0, none⟩) n c)).run Tryd.prog W = .ok (.string (bs (L.take n))) W := by
  have e := run_convert_bytes_arg W 45 5 Tryd.underlying45 Tryd.underlying5 g 0 n c ((L.take n).map fun (x : Nat) => (x : Int)) (by simp; omega) (fun i hi => by
    rw [Nat.zero_add, h.cell (by omega), Bl.nth_lt (by omega)]
    simp [List.getD_eq_getElem?_getD, hi, show i < L.length by omega]) 9 Tryd.underlying9
  rw [e]
  unfold strOfNums bs
  simp [List.map_map, Function.comp_def]
theorem bw_below (w : World) (s : ByteArray) : Below w.heap.size w (Lib.bytesWorld w 5 s) :=
  ⟨by unfold Lib.bytesWorld World.freeze; split <;> rfl, by unfold Lib.bytesWorld World.freeze; split <;> rfl, by unfold Lib.bytesWorld World.freeze; split <;> rfl, by rw [Lib.bytesWorld_size]; omega, fun k hk => Lib.bytesWorld_at_old w 5 s k hk⟩
theorem bw_bt (w : World) (s : ByteArray) : Bt (Lib.bytesWorld w 5 s) w.heap.size (tn s) := by
  refine ⟨_, _, _, Lib.bytesWorld_at_new w 5 s, ?_, ?_, fun j hj => ?_⟩
  · simp [Lib.bytesCells, tn]
  · simp [Lib.bytesCells, tn]
  · have := Lib.bytesWorld_cell w 5 s j (by rw [tn_length] at hj; exact hj)
    simp only [World.cell?, Lib.bytesWorld_at_new] at this
    rw [if_neg (by simp)] at this
    rw [this]
    rw [tn_length] at hj
    unfold Bl.nth tn
    simp [List.getD_eq_getElem?_getD, hj]
/-- a box of a box's length is refused, if at all, with the number five -/
theorem openD_big {K : List Nat} {h x : ByteArray} (hx : ¬ x.size < 44) : (openD K h x).2 = 0 ∨ openD K h x = (⟨#[]⟩, 5) := by
  unfold openD
  rw [if_neg hx]
  split
  · exact .inl rfl
  · exact .inr rfl
end Go.Proofs.YtaoaebdjinlcnaaDoor
namespace Go.Proofs.YtaoaebdjinlcnaaDoor
set_option linter.unusedVariables false
open Go.RowKit
/-- the words 'next', 'send' and 'reply' -/
def wN : List Nat := [110, 101, 120, 116]
def wS : List Nat := [115, 101, 110, 100]
def wR : List Nat := [114, 101, 112, 108, 121]
/-- the key behind a key; so many keys on -/
def nxt (K : List Nat) : List Nat := Bl.keyed K wN
def it (K : List Nat) : Nat → List Nat
  | 0 => K
  | n + 1 => nxt (it K n)
theorem it_add (K : List Nat) (a : Nat) : ∀ b, it (it K a) b = it K (a + b)
  | 0 => rfl
  | b + 1 => by rw [it, it_add K a b]; rfl
theorem it_len {K : List Nat} (h : K.length = 32) : ∀ n, (it K n).length = 32
  | 0 => h
  | n + 1 => keyed_len _ _
theorem it_by {K : List Nat} (h : Bl.By K) : ∀ n, Bl.By (it K n)
  | 0 => h
  | n + 1 => keyed_by _ _
/-- a number in eight bytes; its nonce; a message's head -/
def num8 (n : Nat) : ByteArray := ⟨(Nu.putB n 8).toArray⟩
theorem num8_size (n : Nat) : (num8 n).size = 8 := by
  show (Nu.putB n 8).toArray.size = 8
  rw [List.size_toArray, Nu.putB_length]
theorem num8_get {n : Nat} (h : n < 18446744073709551616) : Nu.getB (Un.Nm.toL (num8 n)) = n := by
  have e : Un.Nm.toL (num8 n) = Nu.putB n 8 := by simp [Un.Nm.toL, num8]
  rw [e, Nu.get_put]
  exact Nat.mod_eq_of_lt (by simpa using h)
def headD (m : ByteArray) (n : Nat) : ByteArray := rowN m (num8 n)
theorem headD_size (m : ByteArray) (n : Nat) (h : m.size ≤ 100000) : (headD m n).size ≤ m.size + 18 := by
  have := rowN_size m (num8 n) (by rw [num8_size]; omega)
  rw [num8_size] at this
  exact this
/-- a row of texts -/
def rowL (l : List ByteArray) : ByteArray := ⟨(Nu.rowB (l.map Un.Nm.toL)).toArray⟩
theorem toL_rowL (l : List ByteArray) : Un.Nm.toL (rowL l) = Nu.rowB (l.map Un.Nm.toL) := by simp [Un.Nm.toL, rowL]
theorem rowL_size (l : List ByteArray) (h : Un.Nm.room l ≤ 1000000000) : (rowL l).size ≤ Un.Nm.room l := by
  show (Nu.rowB (l.map Un.Nm.toL)).toArray.size ≤ _
  rw [List.size_toArray]
  exact Un.Nm.rowB_length_le l h
/-- one end of a channel -/
structure Ch where
  m : ByteArray
  n : Nat
  K : List Nat
structure Ch.Ok (c : Ch) : Prop where
  n : c.n < 18446744073709551616
  k : c.K.length = 32
  b : Bl.By c.K
theorem Ch.ext' {a b : Ch} (h1 : a.m = b.m) (h2 : a.n = b.n) (h3 : a.K = b.K) : a = b := by
  cases a; cases b; cases h1; cases h2; cases h3; rfl
def zCh : Ch := ⟨⟨#[]⟩, 0, List.replicate 32 0⟩
theorem zCh_ok : zCh.Ok := ⟨by decide, by simp [zCh], fun x hx => by rw [(List.mem_replicate.1 hx).2]; decide⟩
/-- its cells -/
def chv (c : Ch) : Array Value := (Value.string c.m :: Value.int .u64 (c.n : Int) :: c.K.map fun (x : Nat) => Value.int .u8 (x : Int)).toArray
theorem chv_size (c : Ch) (h : c.K.length = 32) : (chv c).size = 34 := by simp [chv, h]
theorem chv_one (c : Ch) : (chv c).all (·.oneCell') = true := by
  rw [Array.all_eq_true_iff_forall_mem]
  intro v hv
  simp [chv] at hv
  rcases hv with rfl | rfl | ⟨k, _, rfl⟩ <;> rfl
theorem chv_key (c : Ch) (i : Nat) (h : i < c.K.length) : (chv c)[2 + i]? = some (.int .u8 (Bl.nth c.K i : Nat)) := by
  have := vs_get .u8 h
  rw [Nat.add_comm]
  simpa [chv, vs] using this
/-- what is answered -/
abbrev Rs := Ch × ByteArray × Nat
def bad (e : Nat) : Rs := (zCh, ⟨#[]⟩, e)
def rsv (r : Rs) : Value := .tuple #[.agg (chv r.1), .string r.2.1, .int .i64 (r.2.2 : Int)]
def boxS (K : List Nat) (m : ByteArray) (n : Nat) (d : ByteArray) : ByteArray := boxD (Bl.keyed K wS) (nonD (num8 n)) (headD m n) d
def frameD (c : Ch) (d : ByteArray) : ByteArray := rowL [c.m, num8 c.n, boxS c.K c.m c.n d]
def sendR (c : Ch) (d : ByteArray) : Rs :=
  if 65536 < d.size then bad 6 else if c.n = 18446744073709551615 then bad 2 else (⟨c.m, c.n + 1, nxt c.K⟩, frameD c d, 0)
def take3 (c : Ch) (n : Nat) (x : ByteArray) : Rs :=
  let K := it c.K (n - c.n)
  let o := openD (Bl.keyed K wS) (headD c.m n) x
  if o.2 = 0 then (⟨c.m, n + 1, nxt K⟩, o.1, 0) else bad o.2
def take2 (c : Ch) (n : Nat) (x : ByteArray) : Rs :=
  if n < c.n then bad 19 else if 1000 < n - c.n ∨ n = 18446744073709551615 then bad 6 else take3 c n x
def takeL (c : Ch) : List ByteArray → Rs
  | [a, b, x] => if b.size = 8 then (if a = c.m then take2 c (Nu.getB (Un.Nm.toL b)) x else bad 7) else bad 3
  | _ => bad 3
theorem takeL_len (c : Ch) (l : List ByteArray) (h : l.length ≠ 3) : takeL c l = bad 3 := by
  match l, h with
  | [], _ => rfl
  | [_], _ => rfl
  | [_, _], _ => rfl
  | [_, _, _], h => exact absurd rfl h
  | _ :: _ :: _ :: _ :: _, _ => rfl
def mkB (L : List UInt8) : ByteArray := ⟨L.toArray⟩
theorem mkB_toL (s : ByteArray) : mkB (Un.Nm.toL s) = s := by simp [mkB, Un.Nm.toL]
theorem map_mkB (l : List ByteArray) : (l.map Un.Nm.toL).map mkB = l := by
  rw [List.map_map]
  conv => rhs; rw [← List.map_id l]
  apply List.map_congr_left
  intro a _
  exact mkB_toL a
def takeR (c : Ch) (f : ByteArray) : Rs :=
  if (Nu.texts (Un.Nm.toL f)).2 = 0 then takeL c ((Nu.texts (Un.Nm.toL f)).1.map mkB) else bad (Nu.texts (Un.Nm.toL f)).2
theorem takeR_row {c : Ch} {l : List ByteArray} (h : ∀ s ∈ l, s.size < 268435456) : takeR c (rowL l) = takeL c l := by
  unfold takeR
  rw [toL_rowL, Nu.texts_row (by
    intro s hs
    obtain ⟨a, ha, rfl⟩ := List.mem_map.1 hs
    rw [Un.Nm.toL_length]
    exact h a ha), if_pos rfl, map_mkB]
theorem nonD8_len (n : Nat) : (nonD (num8 n)).length = 12 := nonD_len _
theorem nonD8_by (n : Nat) : Bl.By (nonD (num8 n)) := nonD_by _
theorem boxS_size (K : List Nat) (m : ByteArray) (n : Nat) (d : ByteArray) : (boxS K m n d).size = d.size + 44 := boxD_size (nonD8_len n)
theorem frame_size (c : Ch) (d : ByteArray) (hm : c.m.size ≤ 100000) (hd : d.size ≤ 100000) : (frameD c d).size ≤ c.m.size + d.size + 67 := by
  have e : Un.Nm.room [c.m, num8 c.n, boxS c.K c.m c.n d] = c.m.size + d.size + 67 := by
    simp [Un.Nm.room, num8_size, boxS_size]; omega
  have := rowL_size [c.m, num8 c.n, boxS c.K c.m c.n d] (by rw [e]; omega)
  rw [e] at this
  exact this
/-- what one end sends, taken by any end -/
theorem take_frame (a c : Ch) (d : ByteArray) (hn : c.n < 18446744073709551616) (hm : c.m.size ≤ 100000) (hd : d.size ≤ 100000) :
    takeR a (frameD c d) = if c.m = a.m then take2 a c.n (boxS c.K c.m c.n d) else bad 7 := by
  unfold frameD
  rw [takeR_row (by
    intro s hs
    simp at hs
    rcases hs with rfl | rfl | rfl
    · omega
    · rw [num8_size]; omega
    · rw [boxS_size]; omega), takeL, if_pos (num8_size _), num8_get hn]
/-- the end that is so many keys behind takes it -/
theorem take_own (a c : Ch) (d : ByteArray) (hn : c.n < 18446744073709551615) (hm : c.m.size ≤ 100000) (hd : d.size ≤ 100000)
    (h1 : a.m = c.m) (h2 : a.n ≤ c.n) (h3 : c.n - a.n ≤ 1000) (h4 : it a.K (c.n - a.n) = c.K) :
    takeR a (frameD c d) = (⟨c.m, c.n + 1, nxt c.K⟩, d, 0) := by
  rw [take_frame a c d (by omega) hm hd, if_pos h1.symm]
  unfold take2
  rw [if_neg (by omega), if_neg (by omega)]
  unfold take3
  rw [h4, h1]
  have e : openD (Bl.keyed c.K wS) (headD c.m c.n) (boxS c.K c.m c.n d) = (d, 0) := open_seal (nonD8_by _) (nonD8_len _)
  simp only [e, if_pos]
theorem take_old (a c : Ch) (d : ByteArray) (hn : c.n < 18446744073709551616) (hm : c.m.size ≤ 100000) (hd : d.size ≤ 100000)
    (h1 : a.m = c.m) (h2 : c.n < a.n) : takeR a (frameD c d) = bad 19 := by
  rw [take_frame a c d hn hm hd, if_pos h1.symm]
  unfold take2
  rw [if_pos h2]
theorem take_far (a c : Ch) (d : ByteArray) (hn : c.n < 18446744073709551616) (hm : c.m.size ≤ 100000) (hd : d.size ≤ 100000)
    (h1 : a.m = c.m) (h2 : a.n ≤ c.n) (h3 : 1000 < c.n - a.n) : takeR a (frameD c d) = bad 6 := by
  rw [take_frame a c d hn hm hd, if_pos h1.symm]
  unfold take2
  rw [if_neg (by omega), if_pos (.inl h3)]
theorem send_ok (c : Ch) (d : ByteArray) (h1 : d.size ≤ 65536) (h2 : c.n < 18446744073709551615) : sendR c d = (⟨c.m, c.n + 1, nxt c.K⟩, frameD c d, 0) := by
  unfold sendR
  rw [if_neg (by omega), if_neg (by omega)]
/-- so many are sent, one behind the other -/
def ahead (c : Ch) (i : Nat) : Ch := ⟨c.m, c.n + i, it c.K i⟩
theorem ahead_next (c : Ch) (i : Nat) : (⟨(ahead c i).m, (ahead c i).n + 1, nxt (ahead c i).K⟩ : Ch) = ahead c (i + 1) := rfl
theorem take_ahead (c : Ch) (i j : Nat) (d : ByteArray) (hij : i ≤ j) (hj : j - i ≤ 1000) (hn : c.n + j < 18446744073709551615) (hm : c.m.size ≤ 100000) (hd : d.size ≤ 100000) :
    takeR (ahead c i) (frameD (ahead c j) d) = (ahead c (j + 1), d, 0) := by
  rw [take_own (ahead c i) (ahead c j) d hn hm hd rfl (by show c.n + i ≤ c.n + j; omega) (by show c.n + j - (c.n + i) ≤ 1000; omega) (by
    show it (it c.K i) (c.n + j - (c.n + i)) = it c.K j
    rw [it_add]; congr 1; omega)]
  rfl
/-- an answer's frame, and what it says -/
def replyD (K : List Nat) (n : Nat) (d : ByteArray) : ByteArray := boxD (Bl.keyed K wR) (nonD (num8 n)) (num8 n) d
def ansD (K : List Nat) (n : Nat) (f : ByteArray) : ByteArray × Nat := openD (Bl.keyed K wR) (num8 n) f
theorem ans_reply (K : List Nat) (n : Nat) (d : ByteArray) : ansD K n (replyD K n d) = (d, 0) := open_seal (nonD8_by _) (nonD8_len _)
theorem reply_size (K : List Nat) (n : Nat) (d : ByteArray) : (replyD K n d).size = d.size + 44 := boxD_size (nonD8_len n)
theorem take3_err (c : Ch) (n : Nat) (x : ByteArray) : (take3 c n x).2.2 = 0 ∨ ∃ e, take3 c n x = bad e := by
  unfold take3
  simp only
  split
  · exact .inl rfl
  · exact .inr ⟨_, rfl⟩
end Go.Proofs.YtaoaebdjinlcnaaDoor
namespace Go.Proofs.YtaoaebdjinlcnaaDoor
set_option linter.unusedVariables false
set_option linter.unusedSimpArgs false
open Go.RowKit
theorem tn_next : tn ⟨#[110, 101, 120, 116]⟩ = wN := by decide
theorem tn_send : tn ⟨#[115, 101, 110, 100]⟩ = wS := by decide
theorem tn_reply : tn ⟨#[114, 101, 112, 108, 121]⟩ = wR := by decide
theorem eK8 : min (max (8 : Int) 0) 8 = ((8 : Nat) : Int) := by decide
set_option maxRecDepth 100000 in
set_option maxHeartbeats 1000000 in
theorem sub_any (K : List Nat) (s : ByteArray) (w : World) (hK : Bl.By K) (lK : K.length = 32) (hT : Tab w) (hs : s.size ≤ 1000) :
    Calls Tryd.prog 36 #[.agg (vs .u8 K), .string s] w fun e w' => e = .returned (.agg (vs .u8 (Bl.keyed K (tn s)))) ∧ Below w.heap.size w w' := by
  obtain ⟨V, hV⟩ : ∃ V, V = (w.alloc (Obj.cells (vs .u8 K) 24)).alloc (Obj.cells (vs .u8 (List.replicate 32 0)) 24) := ⟨_, rfl⟩
  have hb0 : Below w.heap.size w V := by rw [hV]; exact ((Below.refl _ w).alloc (Nat.le_refl _) _).alloc (by simp) _
  have o0 : Own V (w.heap.size + 1) 24 (vs .u8 (List.replicate 32 0)) := by rw [hV]; exact Own.new' _ _ _ (by simp)
  have z0 : V.heap.size = w.heap.size + 1 + 1 := by rw [hV]; simp
  have oK : Own ((w.alloc (Obj.cells (vs .u8 K) 24)).alloc (Obj.cells (vs .u8 (List.replicate 32 0)) 24)) w.heap.size 24 (vs .u8 K) := (Own.new _ _ _).alloc _
  obtain ⟨D, hD⟩ : ∃ D, D = Bl.keyed K (tn s) := ⟨_, rfl⟩
  have lD : D.length = 32 := by rw [hD]; exact keyed_len _ _
  rw [← hD]
  have HV := Lib.hid (And.intro hV hD)
  clear hV hD
  go_enter Tryd.func36, Tryd.ntmps36
  go_wp2_with (refine ld t28 rfl rfl rfl oK lK ?_)
  change Calls _ _ _ (((w.alloc (Obj.cells (vs .u8 K) 24)).alloc (Obj.cells (vs .u8 (List.replicate 32 0)) 24)).alloc (Obj.cells #[.string s] 9)) _
  rw [← HV.out.1]
  clear oK
  have hb1 := grow V (Obj.cells #[.string s] 9)
  have p1 := Pt.new1 V s
  rw [z0] at p1
  generalize V.alloc (Obj.cells #[.string s] 9) = V1 at *
  have o1 := Below.own hb1 o0 o0.lt
  have b1 := hb0.trans (hb1.mono hb0.size)
  clear hb0 hb1 o0
  refine (keyed_one hK lK (hT.below b1) p1 (by omega)).mono ?_
  rintro e w2 ⟨rfl, hx⟩
  replace o1 := Below.own hx o1 o1.lt
  replace b1 := b1.trans (hx.mono b1.size)
  clear hx p1
  rw [← HV.out.2]
  go_wp2_with (refine sto t28 rfl rfl rfl rfl o1 (by simp) lD ?_)
  exact ret_arr t28 rfl rfl (o1.row _) lD rfl ⟨rfl, below_row b1 (by omega) _⟩
set_option maxRecDepth 100000 in
set_option maxHeartbeats 1000000 in
theorem of43_any (K : List Nat) (s : ByteArray) (w : World) (hK : Bl.By K) (lK : K.length = 32) (hs : s.size ≤ 1000) :
    Calls Tryd.prog 24 #[.agg (vs .u8 K), .string s] w fun e w' => e = .returned (.agg (vs .u8 (Bl.keyed K (tn s)))) ∧ Below w.heap.size w w' := by
  obtain ⟨V, hV⟩ : ∃ V, V = (w.alloc (Obj.cells (vs .u8 K) 24)).alloc (Obj.cells (vs .u8 (List.replicate 32 0)) 24) := ⟨_, rfl⟩
  have hb0 : Below w.heap.size w V := by rw [hV]; exact ((Below.refl _ w).alloc (Nat.le_refl _) _).alloc (by simp) _
  have o0 : Own V (w.heap.size + 1) 24 (vs .u8 (List.replicate 32 0)) := by rw [hV]; exact Own.new' _ _ _ (by simp)
  have z0 : V.heap.size = w.heap.size + 1 + 1 := by rw [hV]; simp
  have oK : Own ((w.alloc (Obj.cells (vs .u8 K) 24)).alloc (Obj.cells (vs .u8 (List.replicate 32 0)) 24)) w.heap.size 24 (vs .u8 K) := (Own.new _ _ _).alloc _
  obtain ⟨D, hD⟩ : ∃ D, D = Bl.keyed K (tn s) := ⟨_, rfl⟩
  have lD : D.length = 32 := by rw [hD]; exact keyed_len _ _
  rw [← hD]
  have HV := Lib.hid (And.intro hV hD)
  clear hV hD
  go_enter Tryd.func24, Tryd.ntmps24
  go_wp2_with (refine ld t28 rfl rfl rfl oK lK ?_)
  change Calls _ _ _ (((w.alloc (Obj.cells (vs .u8 K) 24)).alloc (Obj.cells (vs .u8 (List.replicate 32 0)) 24)).alloc (Obj.cells #[.string s] 9)) _
  rw [← HV.out.1]
  clear oK
  have hb1 := grow V (Obj.cells #[.string s] 9)
  have p1 := Pt.new1 V s
  rw [z0] at p1
  generalize V.alloc (Obj.cells #[.string s] 9) = V1 at *
  have o1 := Below.own hb1 o0 o0.lt
  have b1 := hb0.trans (hb1.mono hb0.size)
  clear hb0 hb1 o0
  refine (rkeyed_one hK lK p1 (by omega)).mono ?_
  rintro e w2 ⟨rfl, hx⟩
  replace o1 := Below.own hx o1 o1.lt
  replace b1 := b1.trans (hx.mono b1.size)
  clear hx p1
  rw [← HV.out.2]
  go_wp2_with (refine sto t28 rfl rfl rfl rfl o1 (by simp) lD ?_)
  exact ret_arr t28 rfl rfl (o1.row _) lD rfl ⟨rfl, below_row b1 (by omega) _⟩
set_option maxRecDepth 100000 in
theorem next_any (K : List Nat) (w : World) (hK : Bl.By K) (lK : K.length = 32) (hT : Tab w) :
    Calls Tryd.prog 14 #[.agg (vs .u8 K)] w fun e w' => e = .returned (.agg (vs .u8 (nxt K))) ∧ Below w.heap.size w w' := by
  obtain ⟨V, hV⟩ : ∃ V, V = (w.alloc (Obj.cells (vs .u8 K) 24)).alloc (Obj.cells (vs .u8 (List.replicate 32 0)) 24) := ⟨_, rfl⟩
  have b1 : Below w.heap.size w V := by rw [hV]; exact ((Below.refl _ w).alloc (Nat.le_refl _) _).alloc (by simp) _
  have o1 : Own V (w.heap.size + 1) 24 (vs .u8 (List.replicate 32 0)) := by rw [hV]; exact Own.new' _ _ _ (by simp)
  have oK : Own ((w.alloc (Obj.cells (vs .u8 K) 24)).alloc (Obj.cells (vs .u8 (List.replicate 32 0)) 24)) w.heap.size 24 (vs .u8 K) := (Own.new _ _ _).alloc _
  have hs := sub_any K ⟨#[110, 101, 120, 116]⟩ V hK lK (hT.below b1) (by decide)
  rw [tn_next] at hs
  obtain ⟨D, hD⟩ : ∃ D, D = nxt K := ⟨_, rfl⟩
  have lD : D.length = 32 := by rw [hD]; exact keyed_len _ _
  rw [← hD]
  rw [show Bl.keyed K wN = D from hD.symm] at hs
  have HV := Lib.hid (And.intro hV hD)
  have HS := Lib.hid hs
  clear hV hD hs
  go_enter Tryd.func14, Tryd.ntmps14
  go_wp2_with (refine ld t28 rfl rfl rfl oK lK ?_)
  change Calls _ _ _ ((w.alloc (Obj.cells (vs .u8 K) 24)).alloc (Obj.cells (vs .u8 (List.replicate 32 0)) 24)) _
  rw [← HV.out.1]
  clear oK
  refine HS.out.mono ?_
  rintro e w2 ⟨rfl, hx⟩
  replace o1 := Below.own hx o1 o1.lt
  replace b1 := b1.trans (hx.mono b1.size)
  clear hx HS
  go_wp2_with (refine sto t28 rfl rfl rfl rfl o1 (by simp) lD ?_)
  exact ret_arr t28 rfl rfl (o1.row _) lD rfl ⟨rfl, below_row b1 (by omega) _⟩
set_option maxRecDepth 100000 in
theorem send_key (K : List Nat) (w : World) (hK : Bl.By K) (lK : K.length = 32) (hT : Tab w) :
    Calls Tryd.prog 28 #[.agg (vs .u8 K)] w fun e w' => e = .returned (.agg (vs .u8 (Bl.keyed K wS))) ∧ Below w.heap.size w w' := by
  obtain ⟨V, hV⟩ : ∃ V, V = (w.alloc (Obj.cells (vs .u8 K) 24)).alloc (Obj.cells (vs .u8 (List.replicate 32 0)) 24) := ⟨_, rfl⟩
  have b1 : Below w.heap.size w V := by rw [hV]; exact ((Below.refl _ w).alloc (Nat.le_refl _) _).alloc (by simp) _
  have o1 : Own V (w.heap.size + 1) 24 (vs .u8 (List.replicate 32 0)) := by rw [hV]; exact Own.new' _ _ _ (by simp)
  have oK : Own ((w.alloc (Obj.cells (vs .u8 K) 24)).alloc (Obj.cells (vs .u8 (List.replicate 32 0)) 24)) w.heap.size 24 (vs .u8 K) := (Own.new _ _ _).alloc _
  have hs := sub_any K ⟨#[115, 101, 110, 100]⟩ V hK lK (hT.below b1) (by decide)
  rw [tn_send] at hs
  obtain ⟨D, hD⟩ : ∃ D, D = Bl.keyed K wS := ⟨_, rfl⟩
  have lD : D.length = 32 := by rw [hD]; exact keyed_len _ _
  rw [← hD]
  rw [show Bl.keyed K wS = D from hD.symm] at hs
  have HV := Lib.hid (And.intro hV hD)
  have HS := Lib.hid hs
  clear hV hD hs
  go_enter Tryd.func28, Tryd.ntmps28
  go_wp2_with (refine ld t28 rfl rfl rfl oK lK ?_)
  change Calls _ _ _ ((w.alloc (Obj.cells (vs .u8 K) 24)).alloc (Obj.cells (vs .u8 (List.replicate 32 0)) 24)) _
  rw [← HV.out.1]
  clear oK
  refine HS.out.mono ?_
  rintro e w2 ⟨rfl, hx⟩
  replace o1 := Below.own hx o1 o1.lt
  replace b1 := b1.trans (hx.mono b1.size)
  clear hx HS
  go_wp2_with (refine sto t28 rfl rfl rfl rfl o1 (by simp) lD ?_)
  exact ret_arr t28 rfl rfl (o1.row _) lD rfl ⟨rfl, below_row b1 (by omega) _⟩
set_option maxRecDepth 100000 in
theorem reply_key (K : List Nat) (w : World) (hK : Bl.By K) (lK : K.length = 32) (hT : Tab w) :
    Calls Tryd.prog 37 #[.agg (vs .u8 K)] w fun e w' => e = .returned (.agg (vs .u8 (Bl.keyed K wR))) ∧ Below w.heap.size w w' := by
  obtain ⟨V, hV⟩ : ∃ V, V = (w.alloc (Obj.cells (vs .u8 K) 24)).alloc (Obj.cells (vs .u8 (List.replicate 32 0)) 24) := ⟨_, rfl⟩
  have b1 : Below w.heap.size w V := by rw [hV]; exact ((Below.refl _ w).alloc (Nat.le_refl _) _).alloc (by simp) _
  have o1 : Own V (w.heap.size + 1) 24 (vs .u8 (List.replicate 32 0)) := by rw [hV]; exact Own.new' _ _ _ (by simp)
  have oK : Own ((w.alloc (Obj.cells (vs .u8 K) 24)).alloc (Obj.cells (vs .u8 (List.replicate 32 0)) 24)) w.heap.size 24 (vs .u8 K) := (Own.new _ _ _).alloc _
  have hs := sub_any K ⟨#[114, 101, 112, 108, 121]⟩ V hK lK (hT.below b1) (by decide)
  rw [tn_reply] at hs
  obtain ⟨D, hD⟩ : ∃ D, D = Bl.keyed K wR := ⟨_, rfl⟩
  have lD : D.length = 32 := by rw [hD]; exact keyed_len _ _
  rw [← hD]
  rw [show Bl.keyed K wR = D from hD.symm] at hs
  have HV := Lib.hid (And.intro hV hD)
  have HS := Lib.hid hs
  clear hV hD hs
  go_enter Tryd.func37, Tryd.ntmps37
  go_wp2_with (refine ld t28 rfl rfl rfl oK lK ?_)
  change Calls _ _ _ ((w.alloc (Obj.cells (vs .u8 K) 24)).alloc (Obj.cells (vs .u8 (List.replicate 32 0)) 24)) _
  rw [← HV.out.1]
  clear oK
  refine HS.out.mono ?_
  rintro e w2 ⟨rfl, hx⟩
  replace o1 := Below.own hx o1 o1.lt
  replace b1 := b1.trans (hx.mono b1.size)
  clear hx HS
  go_wp2_with (refine sto t28 rfl rfl rfl rfl o1 (by simp) lD ?_)
  exact ret_arr t28 rfl rfl (o1.row _) lD rfl ⟨rfl, below_row b1 (by omega) _⟩
set_option maxRecDepth 100000 in
theorem rnext_any (K : List Nat) (w : World) (hK : Bl.By K) (lK : K.length = 32) :
    Calls Tryd.prog 15 #[.agg (vs .u8 K)] w fun e w' => e = .returned (.agg (vs .u8 (nxt K))) ∧ Below w.heap.size w w' := by
  obtain ⟨V, hV⟩ : ∃ V, V = (w.alloc (Obj.cells (vs .u8 K) 24)).alloc (Obj.cells (vs .u8 (List.replicate 32 0)) 24) := ⟨_, rfl⟩
  have b1 : Below w.heap.size w V := by rw [hV]; exact ((Below.refl _ w).alloc (Nat.le_refl _) _).alloc (by simp) _
  have o1 : Own V (w.heap.size + 1) 24 (vs .u8 (List.replicate 32 0)) := by rw [hV]; exact Own.new' _ _ _ (by simp)
  have oK : Own ((w.alloc (Obj.cells (vs .u8 K) 24)).alloc (Obj.cells (vs .u8 (List.replicate 32 0)) 24)) w.heap.size 24 (vs .u8 K) := (Own.new _ _ _).alloc _
  have hs := of43_any K ⟨#[110, 101, 120, 116]⟩ V hK lK (by decide)
  rw [tn_next] at hs
  obtain ⟨D, hD⟩ : ∃ D, D = nxt K := ⟨_, rfl⟩
  have lD : D.length = 32 := by rw [hD]; exact keyed_len _ _
  rw [← hD]
  rw [show Bl.keyed K wN = D from hD.symm] at hs
  have HV := Lib.hid (And.intro hV hD)
  have HS := Lib.hid hs
  clear hV hD hs
  go_enter Tryd.func15, Tryd.ntmps15
  go_wp2_with (refine ld t28 rfl rfl rfl oK lK ?_)
  change Calls _ _ _ ((w.alloc (Obj.cells (vs .u8 K) 24)).alloc (Obj.cells (vs .u8 (List.replicate 32 0)) 24)) _
  rw [← HV.out.1]
  clear oK
  refine HS.out.mono ?_
  rintro e w2 ⟨rfl, hx⟩
  replace o1 := Below.own hx o1 o1.lt
  replace b1 := b1.trans (hx.mono b1.size)
  clear hx HS
  go_wp2_with (refine sto t28 rfl rfl rfl rfl o1 (by simp) lD ?_)
  exact ret_arr t28 rfl rfl (o1.row _) lD rfl ⟨rfl, below_row b1 (by omega) _⟩
theorem number_any (n : Nat) (w : World) (hn : n < 18446744073709551616) : Calls Tryd.prog 32 #[.int .u64 (n : Int)] w fun e w' => e = .returned (.string (num8 n)) ∧ Below w.heap.size w w' := by
  have hp := Un.Nm.put_any n 8 8 w hn eK8
  have HP := Lib.hid hp
  clear hp
  go_enter Tryd.func32, Tryd.ntmps32
  go_wp2_with fail
  refine HP.out.mono ?_
  rintro e w1 ⟨rfl, hx⟩
  go_wp2_with fail
  go_ret
  exact ⟨rfl, hx⟩
theorem rnum_any (n : Nat) (w : World) (hn : n < 18446744073709551616) : Calls Tryd.prog 35 #[.int .u64 (n : Int), .int .i64 8] w fun e w' => e = .returned (.string (num8 n)) ∧ Below w.heap.size w w' := Un.Nm.rput_any n 8 8 w hn eK8
set_option maxRecDepth 100000 in
theorem nonce8_any (n : Nat) (w : World) (hn : n < 18446744073709551616) : Calls Tryd.prog 29 #[.int .u64 (n : Int)] w fun e w' => e = .returned (.agg (vs .u8 (nonD (num8 n)))) ∧ Below w.heap.size w w' := by
  obtain ⟨V, hV⟩ : ∃ V, V = w.alloc (Obj.cells (vs .u8 (List.replicate 12 0)) 54) := ⟨_, rfl⟩
  have b1 : Below w.heap.size w V := by rw [hV]; exact grow _ _
  have o1 : Own V w.heap.size 54 (vs .u8 (List.replicate 12 0)) := by rw [hV]; exact Own.new _ _ _
  have lD := nonD8_len n
  have hs := num8_size n
  have HP := Lib.hid (number_any n V hn)
  have HV := Lib.hid hV
  clear hV
  generalize num8 n = s at *
  go_enter Tryd.func29, Tryd.ntmps29
  go_wp2_with fail
  change Calls _ _ _ (w.alloc (Obj.cells (vs .u8 (List.replicate 12 0)) 54)) _
  rw [← HV.out]
  refine HP.out.mono ?_
  rintro e w1 ⟨rfl, hx⟩
  replace o1 := Below.own hx o1 o1.lt
  replace b1 := b1.trans (hx.mono b1.size)
  clear hx HP
  go_wp2_with fail
  refine (nonce_any s w1).mono ?_
  rintro e w2 ⟨rfl, hx⟩
  replace o1 := Below.own hx o1 o1.lt
  replace b1 := b1.trans (hx.mono b1.size)
  clear hx
  go_wp2_with (refine sto tN rfl rfl rfl rfl o1 (by simp) lD ?_)
  exact ret_arr tN rfl rfl (o1.row _) lD rfl ⟨rfl, below_row b1 (by omega) _⟩
set_option maxRecDepth 100000 in
theorem rnonce8_any (n : Nat) (w : World) (hn : n < 18446744073709551616) : Calls Tryd.prog 34 #[.int .u64 (n : Int)] w fun e w' => e = .returned (.agg (vs .u8 (nonD (num8 n)))) ∧ Below w.heap.size w w' := by
  obtain ⟨V, hV⟩ : ∃ V, V = w.alloc (Obj.cells (vs .u8 (List.replicate 12 0)) 54) := ⟨_, rfl⟩
  have b1 : Below w.heap.size w V := by rw [hV]; exact grow _ _
  have o1 : Own V w.heap.size 54 (vs .u8 (List.replicate 12 0)) := by rw [hV]; exact Own.new _ _ _
  have lD := nonD8_len n
  have hs := num8_size n
  have HP := Lib.hid (rnum_any n V hn)
  have HV := Lib.hid hV
  clear hV
  generalize num8 n = s at *
  go_enter Tryd.func34, Tryd.ntmps34
  go_wp2_with fail
  change Calls _ _ _ (w.alloc (Obj.cells (vs .u8 (List.replicate 12 0)) 54)) _
  rw [← HV.out]
  refine HP.out.mono ?_
  rintro e w1 ⟨rfl, hx⟩
  replace o1 := Below.own hx o1 o1.lt
  replace b1 := b1.trans (hx.mono b1.size)
  clear hx HP
  go_wp2_with fail
  refine (rnonce_any s w1 (by omega)).mono ?_
  rintro e w2 ⟨rfl, hx⟩
  replace o1 := Below.own hx o1 o1.lt
  replace b1 := b1.trans (hx.mono b1.size)
  clear hx
  go_wp2_with (refine sto tN rfl rfl rfl rfl o1 (by simp) lD ?_)
  exact ret_arr tN rfl rfl (o1.row _) lD rfl ⟨rfl, below_row b1 (by omega) _⟩
theorem head_any (m : ByteArray) (n : Nat) (w : World) (hn : n < 18446744073709551616) (hm : m.size ≤ 100000) : Calls Tryd.prog 30 #[.string m, .int .u64 (n : Int)] w fun e w' => e = .returned (.string (headD m n)) ∧ Below w.heap.size w w' := by
  have hs := num8_size n
  have HP := Lib.hid (number_any n w hn)
  unfold headD
  generalize num8 n = s at *
  go_enter Tryd.func30, Tryd.ntmps30
  go_wp2_with fail
  refine HP.out.mono ?_
  rintro e w1 ⟨rfl, b1⟩
  clear HP
  have b2 := b1.trans ((grow w1 (Obj.cells #[.string m, .string s] 9)).mono b1.size)
  have p2 := Pt.new2 w1 m s
  have hr := row_two w1.heap.size m s _ (p2.c 0 m rfl) (p2.c 1 s rfl) (by omega)
  clear p2
  go_wp2_with fail
  refine hr.mono ?_
  rintro e w2 ⟨rfl, hx⟩
  have b3 := b2.trans (hx.mono b2.size)
  go_wp2_with fail
  go_ret
  exact ⟨rfl, b3⟩
theorem rhead_any (m : ByteArray) (n : Nat) (w : World) (hn : n < 18446744073709551616) (hm : m.size ≤ 100000) : Calls Tryd.prog 23 #[.string m, .int .u64 (n : Int)] w fun e w' => e = .returned (.string (headD m n)) ∧ Below w.heap.size w w' := by
  have hs := num8_size n
  have HP := Lib.hid (rnum_any n w hn)
  unfold headD
  generalize num8 n = s at *
  go_enter Tryd.func23, Tryd.ntmps23
  go_wp2_with fail
  refine HP.out.mono ?_
  rintro e w1 ⟨rfl, b1⟩
  clear HP
  have b2 := b1.trans ((grow w1 (Obj.cells #[.string m, .string s] 9)).mono b1.size)
  have p2 := Pt.new2 w1 m s
  have hr := rrow_two w1.heap.size m s _ (p2.c 0 m rfl) (p2.c 1 s rfl) (by omega)
  clear p2
  go_wp2_with fail
  refine hr.mono ?_
  rintro e w2 ⟨rfl, hx⟩
  have b3 := b2.trans (hx.mono b2.size)
  go_wp2_with fail
  go_ret
  exact ⟨rfl, b3⟩
end Go.Proofs.YtaoaebdjinlcnaaDoor
namespace Go.Proofs.YtaoaebdjinlcnaaDoor
set_option linter.unusedVariables false
set_option linter.unusedSimpArgs false
set_option maxRecDepth 100000
open Go.RowKit
theorem info26 : (Tryd.prog.info? 26).map (·.size) = some 34 := by kernel_rfl
theorem info24 : (Tryd.prog.info? 24).map (·.size) = some 32 := by kernel_rfl
theorem cons_len {α : Type} {n : Nat} {K : List α} (h : K.length = n + 1) : ∃ x l, K = x :: l ∧ l.length = n := by
  cases K with
  | nil => simp at h
  | cons x l => exact ⟨x, l, rfl, by simpa using h⟩
theorem built26 (c : Ch) (h : c.K.length = 32) : Tryd.prog.built 26 [(0, .string c.m), (1, .int .u64 (c.n : Int)), (2, .agg (vs .u8 c.K))] = some (chv c) := by
  obtain ⟨m, n, K⟩ := c
  simp only at h
  obtain ⟨k0, K1, rfl, h1⟩ := cons_len h
  obtain ⟨k1, K2, rfl, h2⟩ := cons_len h1
  obtain ⟨k2, K3, rfl, h3⟩ := cons_len h2
  obtain ⟨k3, K4, rfl, h4⟩ := cons_len h3
  obtain ⟨k4, K5, rfl, h5⟩ := cons_len h4
  obtain ⟨k5, K6, rfl, h6⟩ := cons_len h5
  obtain ⟨k6, K7, rfl, h7⟩ := cons_len h6
  obtain ⟨k7, K8, rfl, h8⟩ := cons_len h7
  obtain ⟨k8, K9, rfl, h9⟩ := cons_len h8
  obtain ⟨k9, K10, rfl, h10⟩ := cons_len h9
  obtain ⟨k10, K11, rfl, h11⟩ := cons_len h10
  obtain ⟨k11, K12, rfl, h12⟩ := cons_len h11
  obtain ⟨k12, K13, rfl, h13⟩ := cons_len h12
  obtain ⟨k13, K14, rfl, h14⟩ := cons_len h13
  obtain ⟨k14, K15, rfl, h15⟩ := cons_len h14
  obtain ⟨k15, K16, rfl, h16⟩ := cons_len h15
  obtain ⟨k16, K17, rfl, h17⟩ := cons_len h16
  obtain ⟨k17, K18, rfl, h18⟩ := cons_len h17
  obtain ⟨k18, K19, rfl, h19⟩ := cons_len h18
  obtain ⟨k19, K20, rfl, h20⟩ := cons_len h19
  obtain ⟨k20, K21, rfl, h21⟩ := cons_len h20
  obtain ⟨k21, K22, rfl, h22⟩ := cons_len h21
  obtain ⟨k22, K23, rfl, h23⟩ := cons_len h22
  obtain ⟨k23, K24, rfl, h24⟩ := cons_len h23
  obtain ⟨k24, K25, rfl, h25⟩ := cons_len h24
  obtain ⟨k25, K26, rfl, h26⟩ := cons_len h25
  obtain ⟨k26, K27, rfl, h27⟩ := cons_len h26
  obtain ⟨k27, K28, rfl, h28⟩ := cons_len h27
  obtain ⟨k28, K29, rfl, h29⟩ := cons_len h28
  obtain ⟨k29, K30, rfl, h30⟩ := cons_len h29
  obtain ⟨k30, K31, rfl, h31⟩ := cons_len h30
  obtain ⟨k31, K32, rfl, h32⟩ := cons_len h31
  obtain rfl : K32 = [] := List.length_eq_zero_iff.1 h32
  kernel_rfl
theorem built26z : Tryd.prog.built 26 [] = some (chv zCh) := by kernel_rfl
theorem built26a : Tryd.prog.built 26 [(0, .string ⟨#[97]⟩)] = some (chv ⟨⟨#[97]⟩, 0, List.replicate 32 0⟩) := by kernel_rfl
theorem bld26 {ops : Array Oper} {rest : List Oper} {o : Oper} {a : Act} {w : World} {Q : Exit → Act → World → Prop} {x0 x1 x2 : Operand} (c : Ch) (hc : c.K.length = 32)
    (hgd : o.guard = none) (ho : o.op = .build 26 #[(0, x0), (1, x1), (2, x2)]) (h0 : a.eval x0 = .string c.m) (h1 : a.eval x1 = .int .u64 (c.n : Int)) (h2 : a.eval x2 = .agg (vs .u8 c.K))
    (h : wpList Tryd.prog ops Q rest (a.put o.dst (.agg (chv c))) w) : wpList Tryd.prog ops Q (o :: rest) a w := by
  have hb : Tryd.prog.built 26 ((#[(0, x0), (1, x1), (2, x2)] : Array (Nat × Operand)).map fun (i, x) => (i, a.eval x)).toList = some (chv c) := by
    have e : ((#[(0, x0), (1, x1), (2, x2)] : Array (Nat × Operand)).map fun (i, x) => (i, a.eval x)).toList = [(0, a.eval x0), (1, a.eval x1), (2, a.eval x2)] := by simp
    rw [e, h0, h1, h2]; exact built26 c hc
  exact wpList_build hgd 26 _ ho (by rw [hb]; rfl) (by rw [hb]; exact h)
theorem bld26z {ops : Array Oper} {rest : List Oper} {o : Oper} {a : Act} {w : World} {Q : Exit → Act → World → Prop}
    (hgd : o.guard = none) (ho : o.op = .build 26 #[]) (h : wpList Tryd.prog ops Q rest (a.put o.dst (.agg (chv zCh))) w) : wpList Tryd.prog ops Q (o :: rest) a w := by
  have hb : Tryd.prog.built 26 ((#[] : Array (Nat × Operand)).map fun (i, x) => (i, a.eval x)).toList = some (chv zCh) := by simpa using built26z
  exact wpList_build hgd 26 _ ho (by rw [hb]; rfl) (by rw [hb]; exact h)
/-- an end lies in a box -/
structure Cb (w : World) (g : Nat) (c : Ch) : Prop where
  o : Own w g 26 (chv c)
  k : c.K.length = 32
theorem Cb.new (w : World) (c : Ch) (h : c.K.length = 32) : Cb (w.alloc (Obj.cells (chv c) 26)) w.heap.size c := ⟨Own.new _ _ _, h⟩
theorem Cb.lt {w : World} {g : Nat} {c : Ch} (h : Cb w g c) : g < w.heap.size := h.o.lt
theorem Cb.below {w w' : World} {g : Nat} {c : Ch} (h : Cb w g c) (hx : Below w.heap.size w w') : Cb w' g c := ⟨Below.own hx h.o h.o.lt, h.k⟩
theorem Cb.alloc {w : World} {g : Nat} {c : Ch} (h : Cb w g c) (o : Obj) : Cb (w.alloc o) g c := ⟨h.o.alloc o, h.k⟩
theorem Cb.drew {w : World} {g : Nat} {c : Ch} (h : Cb w g c) : Cb w.drew g c := ⟨h.o, h.k⟩
theorem Cb.row {w : World} {g : Nat} {c : Ch} (h : Cb w g c) (d : Ch) (hd : d.K.length = 32) : Cb (w.setRow g (chv d)) g d := ⟨h.o.row _, hd⟩
theorem Cb.rowOther {w : World} {g p : Nat} {c : Ch} (h : Cb w g c) (cs : Array Value) (hp : g ≠ p) : Cb (w.setRow p cs) g c := ⟨h.o.rowOther _ _ hp, h.k⟩
theorem Cb.c0 {w : World} {g : Nat} {c : Ch} (h : Cb w g c) : w.cell? ⟨g, 0, none⟩ = some (.string c.m) := h.o.cellv 0
theorem Cb.c1 {w : World} {g : Nat} {c : Ch} (h : Cb w g c) : w.cell? ⟨g, 1, none⟩ = some (.int .u64 (c.n : Int)) := h.o.cellv 1
theorem Cb.rg {w : World} {g : Nat} {c : Ch} (h : Cb w g c) : w.rangeAt g 2 (vs .u8 c.K).toList := fun j v hj => by
  have hl : j < c.K.length := by
    have := (List.getElem?_eq_some_iff.1 hj).1
    simpa [vs] using this
  rw [h.o.cellv (2 + j), chv_key c j hl, ← hj, ← vs_get .u8 hl]
  simp
theorem ld26 {ops : Array Oper} {rest : List Oper} {o : Oper} {a : Act} {w : World} {Q : Exit → Act → World → Prop} {x : Operand} {g : Nat} {c : Ch}
    (hgd : o.guard = none) (ho : o.op = .load 26 x) (hx : a.eval x = .pointer (some ⟨g, 0, none⟩)) (hg : Cb w g c)
    (h : wpList Tryd.prog ops Q rest (a.put o.dst (.agg (chv c))) w) : wpList Tryd.prog ops Q (o :: rest) a w :=
  wpList_load_row hgd 26 x ho g hx 26 _ (0, 0) _ hg.o Tryd.underlying26 rfl (by rw [chv_size _ hg.k]; exact info26) h
theorem sto26 {ops : Array Oper} {rest : List Oper} {o : Oper} {a : Act} {w : World} {Q : Exit → Act → World → Prop} {x y : Operand} {g : Nat} {c d : Ch} (hd : d.K.length = 32)
    (hgd : o.guard = none) (ho : o.op = .store 26 x y) (hx : a.eval x = .pointer (some ⟨g, 0, none⟩)) (hy : a.eval y = .agg (chv d)) (hg : Cb w g c)
    (h : wpList Tryd.prog ops Q rest (a.put o.dst undef) (w.setRow g (chv d))) : wpList Tryd.prog ops Q (o :: rest) a w :=
  wpList_store_row hgd 26 x y ho g _ hx hy 26 (chv c) hg.o (by rw [chv_size _ hd]; exact info26) (by rw [chv_size _ hd, chv_size _ hg.k]) (chv_one d) h
/-- the key of an end is read -/
theorem ldk {ops : Array Oper} {rest : List Oper} {o : Oper} {a : Act} {w : World} {Q : Exit → Act → World → Prop} {x : Operand} {g : Nat} {c : Ch}
    (hgd : o.guard = none) (ho : o.op = .load 24 x) (hx : a.eval x = .pointer (some ⟨g, 2, none⟩)) (hg : Cb w g c)
    (h : wpList Tryd.prog ops Q rest (a.put o.dst (.agg (vs .u8 c.K))) w) : wpList Tryd.prog ops Q (o :: rest) a w :=
  wpList_load_mid hgd 24 x ho g 2 hx (vs .u8 c.K).toList _ hg.rg Tryd.underlying24 rfl (by rw [Array.length_toList, vs_size, hg.k]; exact info24) h
theorem ylk {ops : Array Oper} {X : World → Prop} {o : Oper} {a : Act} (hw : Region.wanted o (yielded ops a.tmps) = true) (x : Operand) (ho : o.op = .load 24 x) (g : Nat)
    (hx : a.eval x = .pointer (some ⟨g, 2, none⟩)) {c : Ch} (hS : ∀ w, X w → Cb w g c) (hl : c.K.length = 32) : YieldsIf Tryd.prog ops X o (.agg (vs .u8 c.K)) a :=
  yieldsIf_load_mid hw 24 x ho g 2 hx (vs .u8 c.K).toList _ (fun w h => (hS w h).rg) Tryd.underlying24 rfl (by rw [Array.length_toList, vs_size, hl]; exact info24)
theorem yl26 {ops : Array Oper} {X : World → Prop} {o : Oper} {a : Act} (hw : Region.wanted o (yielded ops a.tmps) = true) (x : Operand) (ho : o.op = .load 26 x) (g : Nat)
    (hx : a.eval x = .pointer (some ⟨g, 0, none⟩)) {c : Ch} (hS : ∀ w, X w → Cb w g c) (hl : c.K.length = 32) : YieldsIf Tryd.prog ops X o (.agg (chv c)) a :=
  .inl ⟨hw, fun w hw' => by
    have e := run_loadVar_row (P := Tryd.prog) w g 26 26 (chv c) (0, 0) _ (hS w hw').o Tryd.underlying26 rfl (by rw [chv_size _ hl]; exact info26)
    unfold execOp
    simp only [ho, hx, Instr.loadAt, Instr.sureAddr, Sem.run_bind, Sem.run_pure, Result.andThen_ok, e]⟩
/-- what is answered: an end, a text, a number -/
theorem res26 {fn : Func} {p q r : Tmp} {R : Ending → World → Prop} {a : Act} {w : World} {g : Nat} {c : Ch} {v u : Value}
    (hr : fn.results = #[.cell p 26, .tmp q, .tmp r]) (hp : a.tmps.getD p undef = .pointer (some ⟨g, 0, none⟩)) (hq : a.tmps.getD q undef = v) (hs : a.tmps.getD r undef = u) (hg : Cb w g c) (hd : a.defers = [])
    (hR : R (.returned (.tuple #[.agg (chv c), v, u])) w) : bodyPost Tryd.prog fn R .ret a w := by
  refine bodyPost_ret ?_ hd hR
  have hp' : a.tmps[p]?.getD undef = .pointer (some ⟨g, 0, none⟩) := by simpa using hp
  have hq' : a.tmps[q]?.getD undef = v := by simpa using hq
  have hs' : a.tmps[r]?.getD undef = u := by simpa using hs
  simp [results, hr, hp', hq', hs', asAddr, run_loadVar_row w g 26 26 _ (0, 0) _ hg.o Tryd.underlying26 rfl (by rw [chv_size _ hg.k]; exact info26)]
/-- an end equals itself -/
theorem key_same (K : List Nat) (h : K.length = 32) (d : Nat) (w : World) : (Op.equalIn (d + 2) 24 (.agg (vs .u8 K)) (.agg (vs .u8 K))).run Tryd.prog w = .ok true w := by
  obtain ⟨i, hi, _⟩ := Option.map_eq_some_iff.1 info5b
  rw [show d + 2 = (d + 1) + 1 from rfl, run_equalIn_array (w := w) (d + 1) (vs .u8 K) (vs .u8 K) Tryd.underlying24 hi, show Tryd.prog.cellsOf 5 = 1 from by kernel_rfl]
  rw [eq_items K K d w rfl _ fun j hj => by rw [h]; exact List.mem_range.1 hj]
  simp
theorem chv_split (c : Ch) : chv c = #[Value.string c.m, Value.int .u64 (c.n : Int)] ++ vs .u8 c.K := by simp [chv, vs]
theorem ch_same (c : Ch) (h : c.K.length = 32) (w : World) : (Op.equalIn 10000 26 (.agg (chv c)) (.agg (chv c))).run Tryd.prog w = .ok true w := by
  have hk := key_same c.K h 9997 w
  rw [show (10000 : Nat) = 9999 + 1 from rfl, run_equalIn_struct (w := w) 9999 26 _ _ (by kernel_rfl) (by kernel_rfl)]
  obtain ⟨m, n, K⟩ := c
  simp only at h hk
  obtain ⟨k0, K1, rfl, h1⟩ := cons_len h
  obtain ⟨k1, K2, rfl, h2⟩ := cons_len h1
  obtain ⟨k2, K3, rfl, h3⟩ := cons_len h2
  obtain ⟨k3, K4, rfl, h4⟩ := cons_len h3
  obtain ⟨k4, K5, rfl, h5⟩ := cons_len h4
  obtain ⟨k5, K6, rfl, h6⟩ := cons_len h5
  obtain ⟨k6, K7, rfl, h7⟩ := cons_len h6
  obtain ⟨k7, K8, rfl, h8⟩ := cons_len h7
  obtain ⟨k8, K9, rfl, h9⟩ := cons_len h8
  obtain ⟨k9, K10, rfl, h10⟩ := cons_len h9
  obtain ⟨k10, K11, rfl, h11⟩ := cons_len h10
  obtain ⟨k11, K12, rfl, h12⟩ := cons_len h11
  obtain ⟨k12, K13, rfl, h13⟩ := cons_len h12
  obtain ⟨k13, K14, rfl, h14⟩ := cons_len h13
  obtain ⟨k14, K15, rfl, h15⟩ := cons_len h14
  obtain ⟨k15, K16, rfl, h16⟩ := cons_len h15
  obtain ⟨k16, K17, rfl, h17⟩ := cons_len h16
  obtain ⟨k17, K18, rfl, h18⟩ := cons_len h17
  obtain ⟨k18, K19, rfl, h19⟩ := cons_len h18
  obtain ⟨k19, K20, rfl, h20⟩ := cons_len h19
  obtain ⟨k20, K21, rfl, h21⟩ := cons_len h20
  obtain ⟨k21, K22, rfl, h22⟩ := cons_len h21
  obtain ⟨k22, K23, rfl, h23⟩ := cons_len h22
  obtain ⟨k23, K24, rfl, h24⟩ := cons_len h23
  obtain ⟨k24, K25, rfl, h25⟩ := cons_len h24
  obtain ⟨k25, K26, rfl, h26⟩ := cons_len h25
  obtain ⟨k26, K27, rfl, h27⟩ := cons_len h26
  obtain ⟨k27, K28, rfl, h28⟩ := cons_len h27
  obtain ⟨k28, K29, rfl, h29⟩ := cons_len h28
  obtain ⟨k29, K30, rfl, h30⟩ := cons_len h29
  obtain ⟨k30, K31, rfl, h31⟩ := cons_len h30
  obtain ⟨k31, K32, rfl, h32⟩ := cons_len h31
  obtain rfl : K32 = [] := List.length_eq_zero_iff.1 h32
  clear h1 h2 h3 h4 h5 h6 h7 h8 h9 h10 h11 h12 h13 h14 h15 h16 h17 h18 h19 h20 h21 h22 h23 h24 h25 h26 h27 h28 h29 h30 h31 h32
  simp only [chv, vs, List.map_cons, List.map_nil] at hk ⊢
  simp [Program.fieldsOf, Tryd.underlying26]
  go_simp
theorem exec_eq26 (c : Ch) (h : c.K.length = 32) (w : World) (ρ : Operand → Value) (x y : Operand) (hx : ρ x = .agg (chv c)) (hy : ρ y = .agg (chv c)) (o : Oper) (ho : o.op = .binOp .eql 26 x y 26) : (execOp ρ o).run Tryd.prog w = .ok (.value (.bool true)) w := by
  have hg := run_eqGuard_agg (P := Tryd.prog) (w := w) .eql 26 x y (chv c) (chv c) (by kernel_rfl)
  have hb := run_eql_struct (P := Tryd.prog) (w := w) 26 (chv c) (chv c)
  rw [ch_same c h w] at hb
  unfold execOp
  simp only [ho, hx, hy, Sem.run_bind, hg, hb, Result.andThen_ok, Sem.run_pure]
theorem exec_ne26 (c : Ch) (h : c.K.length = 32) (w : World) (ρ : Operand → Value) (x y : Operand) (hx : ρ x = .agg (chv c)) (hy : ρ y = .agg (chv c)) (o : Oper) (ho : o.op = .binOp .neq 26 x y 26) : (execOp ρ o).run Tryd.prog w = .ok (.value (.bool false)) w := by
  have hg := run_eqGuard_agg (P := Tryd.prog) (w := w) .neq 26 x y (chv c) (chv c) (by kernel_rfl)
  have hb := run_neq_struct (P := Tryd.prog) (w := w) 26 (chv c) (chv c)
  rw [ch_same c h w] at hb
  unfold execOp
  simp only [ho, hx, hy, Sem.run_bind, hg, hb, Result.andThen_ok, Sem.run_pure]
  rfl
theorem exec_ne24 (K : List Nat) (h : K.length = 32) (w : World) (ρ : Operand → Value) (x y : Operand) (hx : ρ x = .agg (vs .u8 K)) (hy : ρ y = .agg (vs .u8 K)) (o : Oper) (ho : o.op = .binOp .neq 24 x y 24) : (execOp ρ o).run Tryd.prog w = .ok (.value (.bool false)) w := by
  have hg := run_eqGuard_agg (P := Tryd.prog) (w := w) .neq 24 x y (vs .u8 K) (vs .u8 K) (by kernel_rfl)
  have hb := run_neq_struct (P := Tryd.prog) (w := w) 24 (vs .u8 K) (vs .u8 K)
  rw [key_same K h 9998 w] at hb
  unfold execOp
  simp only [ho, hx, hy, Sem.run_bind, hg, hb, Result.andThen_ok, Sem.run_pure]
  rfl
end Go.Proofs.YtaoaebdjinlcnaaDoor
