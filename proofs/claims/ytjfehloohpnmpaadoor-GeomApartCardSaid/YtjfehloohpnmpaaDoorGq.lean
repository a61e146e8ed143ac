/-
  What volumes come of volumes; THE WALK of the chapter's examples; two plans compared.
-/
import Derived.Test.YtjfehloohpnmpaaDoorGp
import Derived.Laws.StructEq
namespace Go.Proofs.YtjfehloohpnmpaaDoor
set_option linter.unusedVariables false
set_option maxRecDepth 100000
set_option linter.unusedSimpArgs false
open Go.RowKit
namespace Dw
open _root_.Go.Proofs.YtjfehloohpnmpaaDoor.Nm
theorem dat_ge (n : Nat) : 3 ≤ Gm.dat n := by unfold Gm.dat; omega
theorem Vol.two {l : List ByteArray} {b n : Nat} (h : Vol l b n) : 2 < l.length := by have := h.lt; have := h.len; omega
theorem turn_nth {l : List ByteArray} {b n k : Nat} (h : Vol l b n) : nth (l.set 2 (turnT (nth l 2) k)) 2 = turnT (nth l 2) k := nth_set h.two
theorem turn_bit {l : List ByteArray} {b n k : Nat} (h : Vol l b n) (hb : k < b) (j : Nat) : Gm.bit (toL (turnT (nth l 2) k)) j = (Gm.bit (toL (nth l 2)) j != decide (j = k)) := by
  rw [toL_turn, Gm.bit_turn]
  rw [toL_length, h.blk 2 (by have := h.lt; omega)]
  have := h.lt
  omega
theorem turn_vol {l : List ByteArray} {b n k : Nat} (h : Vol l b n) (hk : Gm.dat n ≤ k) (hb : k < b) : Vol (l.set 2 (turnT (nth l 2) k)) b n := by
  refine ⟨by rw [List.length_set, h.len], fun i hi => ?_, h.fits, ?_, fun i hi => ?_⟩
  · by_cases e : i = 2
    · rw [e, turn_nth h, turnT_size, h.blk 2 (by have := h.lt; omega)]
    · rw [nth_set_ne (Ne.symm e)]; exact h.blk i hi
  · rw [nth_set_ne (by decide)]; exact h.hd
  · rw [turn_nth h, turn_bit h hb]
    refine ⟨fun hi' => ?_, fun hi' => ?_⟩
    · rw [(h.map i hi).1 hi', decide_eq_false (by omega)]; rfl
    · rw [(h.map i hi).2 hi', decide_eq_false (by omega)]; rfl
theorem set_vol {l : List ByteArray} {b n k : Nat} {x : ByteArray} (h : Vol l b n) (hk : 2 < k) (hb : k < b) (hx : x.size = 128) : Vol (l.set k x) b n := by
  refine ⟨by rw [List.length_set, h.len], fun i hi => ?_, h.fits, ?_, ?_⟩
  · by_cases e : i = k
    · rw [e, nth_set (by rw [h.len]; exact hb), hx]
    · rw [nth_set_ne (Ne.symm e)]; exact h.blk i hi
  · rw [nth_set_ne (by omega)]; exact h.hd
  · rw [nth_set_ne (by omega)]; exact h.map
theorem take_nth {l : List ByteArray} {b n k : Nat} (h : Vol l b n) (hk : Gm.dat n ≤ k) : nth (takeL l k) 2 = turnT (nth l 2) k := by
  unfold takeL
  rw [nth_set_ne (by have := dat_ge n; omega), turn_nth h]
theorem take_vol {l : List ByteArray} {b n k : Nat} (h : Vol l b n) (hk : Gm.dat n ≤ k) (hb : k < b) : Vol (takeL l k) b n := by
  unfold takeL
  exact set_vol (turn_vol h hk hb) (by have := dat_ge n; omega) hb (zs_size 128)
theorem Nxt.uniq {T : List UInt8} {D b i j : Nat} (h : Nxt T D b i) (k : Nxt T D b j) : i = j := by
  rcases Nat.lt_trichotomy i j with h1 | h1 | h1
  · have := k.2.2.2 i h.1 h1
    rw [h.2.2.1] at this
    exact nomatch this
  · exact h1
  · have := h.2.2.2 j k.1 h1
    rw [k.2.2.1] at this
    exact nomatch this
theorem Nxt.not {T : List UInt8} {D b i : Nat} (h : Nxt T D b i) (k : Ful T D b) : False := by
  have := k i h.1 h.2.1
  rw [h.2.2.1] at this
  exact nomatch this
theorem freeN_map (D : Nat) (hD : D ≤ 1024) : ∀ k, freeN (toL (mapT D)) k = k - D
  | 0 => by simp [freeN]
  | k + 1 => by
    rw [freeN_next, freeN_map D hD k, mapT_bit D hD k]
    by_cases h : k < D
    · rw [decide_eq_true h]; simp; omega
    · rw [decide_eq_false h]; simp; omega
theorem fmt_map {b n : Nat} (hf : Gm.fits b n) : nth (fmtL b n) 2 = mapT (Gm.dat n) := fmtK_map hf _
theorem fmt_next {b n : Nat} (hf : Gm.fits b n) : Nxt (toL (nth (fmtL b n) 2)) (Gm.dat n) b (Gm.dat n) := by
  have := hf.2.2.2.2
  have := hf.2.1
  rw [fmt_map hf]
  refine ⟨Nat.le_refl _, hf.2.2.2.2, ?_, fun j h1 h2 => absurd h1 (by omega)⟩
  rw [mapT_bit _ (by omega)]
  simp
theorem fmt_room {b n : Nat} (hf : Gm.fits b n) : freeN (toL (nth (fmtL b n) 2)) b = b - Gm.dat n := by
  have := hf.2.2.2.2
  have := hf.2.1
  rw [fmt_map hf, freeN_map _ (by omega)]
theorem six_eq (a b c d e f : Int) (w : World) : (Op.equalIn 10000 24 (.agg #[.int .i64 a, .int .i64 b, .int .i64 c, .int .i64 d, .int .i64 e, .int .i64 f]) (.agg #[.int .i64 a, .int .i64 b, .int .i64 c, .int .i64 d, .int .i64 e, .int .i64 f])).run Tryd.prog w = .ok true w := by
  rw [show (10000 : Nat) = 9999 + 1 from rfl, run_equalIn_struct (w := w) 9999 24 _ _ (by kernel_rfl) (by kernel_rfl)]
  simp [Program.fieldsOf, Tryd.underlying24]
  go_simp
def Eq24 (cs : Array Value) : Prop := ∀ w, (Op.equalIn 10000 24 (.agg cs) (.agg cs)).run Tryd.prog w = .ok true w
theorem gc_eq (x y : Nat) : Eq24 (gc x y) := fun w => six_eq _ _ _ _ _ _ w
theorem gz_eq : Eq24 gz := fun w => six_eq _ _ _ _ _ _ w
theorem exec_eq24 {cs : Array Value} (h : Eq24 cs) (w : World) (ρ : Operand → Value) (x y : Operand) (hx : ρ x = .agg cs) (hy : ρ y = .agg cs) (o : Oper) (ho : o.op = .binOp .eql 24 x y 24) : (execOp ρ o).run Tryd.prog w = .ok (.value (.bool true)) w := by
  have hg := run_eqGuard_agg (P := Tryd.prog) (w := w) .eql 24 x y cs cs (by kernel_rfl)
  have hb := run_eql_struct (P := Tryd.prog) (w := w) 24 cs cs
  rw [h w] at hb
  unfold execOp
  simp only [ho, hx, hy, Sem.run_bind, hg, hb, Result.andThen_ok, Sem.run_pure]
theorem exec_ne24 {cs : Array Value} (h : Eq24 cs) (w : World) (ρ : Operand → Value) (x y : Operand) (hx : ρ x = .agg cs) (hy : ρ y = .agg cs) (o : Oper) (ho : o.op = .binOp .neq 24 x y 24) : (execOp ρ o).run Tryd.prog w = .ok (.value (.bool false)) w := by
  have hg := run_eqGuard_agg (P := Tryd.prog) (w := w) .neq 24 x y cs cs (by kernel_rfl)
  have hb := run_neq_struct (P := Tryd.prog) (w := w) 24 cs cs
  rw [h w] at hb
  unfold execOp
  simp only [ho, hx, hy, Sem.run_bind, hg, hb, Result.andThen_ok, Sem.run_pure]
  rfl
theorem ne24 {ops : Array Oper} {rest : List Oper} {o : Oper} {a : Act} {w : World} {Q : Exit → Act → World → Prop} {x y : Operand} {cs : Array Value}
    (hgd : Region.wanted o (yielded ops a.tmps) = true) (ho : o.op = .binOp .neq 24 x y 24) (hx : a.eval x = .agg cs) (hy : a.eval y = .agg cs) (hc : Eq24 cs)
    (h : wpList Tryd.prog ops Q rest (a.put o.dst (.bool false)) w) : wpList Tryd.prog ops Q (o :: rest) a w := by
  show (if Region.wanted o (yielded ops a.tmps) then o.wp Tryd.prog a w (wpList Tryd.prog ops Q rest) Q ∨ (o.asks Tryd.prog a w ∧ LetsOut Q) else wpList Tryd.prog ops Q rest (a.put o.dst undef) w)
  rw [if_pos hgd]
  refine .inl ?_
  have e := exec_ne24 hc w a.eval x y hx hy o ho
  unfold Oper.wp
  rw [e]
  exact h
theorem alive_any (w : World) : Calls Tryd.prog 7 #[] w fun e w' => e = .returned (.bool true) ∧ Below w.heap.size w w' := by
  have hf : Gm.fits 24 8 := by unfold Gm.fits Gm.dat; decide
  have hd : Gm.dat 8 = 7 := rfl
  have hv := fmt_vol hf
  have hnx := fmt_next hf
  have hrm := fmt_room hf
  rw [hd] at hrm hnx
  have hpl : ∀ w, Calls Tryd.prog 8 #[.int .i64 24, .int .i64 8] w fun e w' => e = .returned (.tuple #[.agg (gc 24 8), .int .i64 0]) ∧ Below w.heap.size w w' := fun w => by
    refine (plan_any 24 8 w).mono ?_
    rintro e w' ⟨h, hb⟩
    refine ⟨?_, hb⟩
    rcases h with ⟨x, y, hx, hy, _, rfl⟩ | ⟨hE, _⟩
    · obtain rfl : x = 24 := by omega
      obtain rfl : y = 8 := by omega
      rfl
    · exact absurd (Gm.planE_fits hf) hE
  have hfm : ∀ w, Calls Tryd.prog 10 #[.int .i64 24, .int .i64 8] w fun e w' => (∃ A c, e = .returned (.tuple #[.slice A 24 c, .int .i64 0]) ∧ RS w' w.heap.size A 24 c (fmtL 24 8)) ∧ Below w.heap.size w w' := fun w => by
    refine (format_any 24 8 w).mono ?_
    rintro e w' ⟨h, hb⟩
    refine ⟨?_, hb⟩
    rcases h with ⟨K, hK, hE, _⟩ | ⟨x, y, A', c', hx, hy, _, rfl, hr⟩
    · rw [show Gm.planE 24 8 = 0 from Gm.planE_fits hf] at hE
      exact absurd hE.symm hK
    · obtain rfl : x = 24 := by omega
      obtain rfl : y = 8 := by omega
      exact ⟨A', c', rfl, hr⟩
  have htk : ∀ A c w, Tz w A 24 c (fmtL 24 8) → Calls Tryd.prog 20 #[.slice A 24 c] w fun e w' => (∃ A' c', e = .returned (.tuple #[.slice A' 24 c', .int .i64 7, .int .i64 0]) ∧ RS w' w.heap.size A' 24 c' (takeL (fmtL 24 8) 7)) ∧ Below w.heap.size w w' := fun A c w hl => by
    refine (take_any A 24 c _ w hl hv.blk.lit).mono ?_
    rintro e w' ⟨h, hb⟩
    refine ⟨?_, hb⟩
    rcases h with ⟨hn, _⟩ | ⟨b, n, hv', hfu, _⟩ | ⟨b, n, k, A', c', hv', hn, rfl, hr⟩
    · exact absurd hv (hn _ _)
    · obtain ⟨rfl, rfl⟩ := hv.uniq hv'
      exact (hnx.not hfu).elim
    · obtain ⟨rfl, rfl⟩ := hv.uniq hv'
      obtain rfl := hnx.uniq hn
      exact ⟨A', c', rfl, hr⟩
  have hro : ∀ A c w, Tz w A 24 c (fmtL 24 8) → Calls Tryd.prog 14 #[.slice A 24 c] w fun e w' => e = .returned (.int .i64 17) ∧ Below w.heap.size w w' := fun A c w hl => by
    refine (room_any A 24 c _ w hl hv.blk.lit).mono ?_
    rintro e w' ⟨h, hb⟩
    refine ⟨?_, hb⟩
    rcases h with ⟨b, n, hv', rfl⟩ | ⟨hn, _⟩
    · obtain ⟨rfl, rfl⟩ := hv.uniq hv'
      rw [hrm]; rfl
    · exact absurd hv (hn _ _)
  have hu1 : ∀ A c w, Tz w A 24 c (takeL (fmtL 24 8) 7) → Calls Tryd.prog 17 #[.slice A 24 c, .int .i64 7] w fun e w' => e = .returned (.bool true) ∧ Below w.heap.size w w' := fun A c w hl => by
    have hv2 := take_vol hv (k := 7) (by decide) (by decide)
    refine (used_any A 24 c _ 7 w hl hv2.blk.lit).mono ?_
    rintro e w' ⟨⟨r, rfl, hr⟩, hb⟩
    refine ⟨?_, hb⟩
    rw [hr.2 ⟨24, 8, hv2, by decide, by decide, ?_⟩]
    rw [take_nth hv (k := 7) (by decide), turn_bit hv (by decide)]
    rw [show (7 : Int).toNat = 7 from rfl, hnx.2.2.1]; rfl
  have hu2 : ∀ A c w, Tz w A 24 c (fmtL 24 8) → Calls Tryd.prog 17 #[.slice A 24 c, .int .i64 7] w fun e w' => e = .returned (.bool false) ∧ Below w.heap.size w w' := fun A c w hl => by
    refine (used_any A 24 c _ 7 w hl hv.blk.lit).mono ?_
    rintro e w' ⟨⟨r, rfl, hr⟩, hb⟩
    refine ⟨?_, hb⟩
    cases r
    · rfl
    · obtain ⟨_, _, _, _, _, hk⟩ := hr.1 rfl
      rw [show (7 : Int).toNat = 7 from rfl, hnx.2.2.1] at hk
      exact nomatch hk
  clear hv hnx hrm
  generalize takeL (fmtL 24 8) 7 = L2 at *
  generalize fmtL 24 8 = L1 at *
  go_enter Tryd.func7, Tryd.ntmps7
  go_wp2_with fail
  refine (hpl _).mono ?_
  rintro e w1 ⟨rfl, hx⟩
  have hb2 := hx.trans ((grow w1 (Obj.cells gz 24)).mono hx.size)
  have og := Nm.Own.new w1 24 gz
  go_wp2_with (refine sto24 (cs := gc 24 8) rfl rfl rfl rfl og (gc_one _ _) gz_one ?_)
  intro w5 o5 s5
  have hb5 := s5.below hb2 hx.size
  clear hx hb2 og s5 hpl
  generalize w1.heap.size = g at *
  go_wp2_with fail
  refine (hfm _).mono ?_
  rintro e w6 ⟨⟨A, c, rfl, hr⟩, hx6⟩
  have o6 := o5.below hx6
  have hb6 := hb5.trans (hx6.mono hb5.size)
  have hz6 := Tz.of hr (by decide)
  clear o5 hb5 hx6 hr
  go_wp2_with fail
  refine (htk _ _ _ hz6).mono ?_
  rintro e w7 ⟨⟨A2, c2, rfl, hr⟩, hx7⟩
  have o7 := o6.below hx7
  have hb7 := hb6.trans (hx7.mono hb6.size)
  have hz7 := hz6.below hx7
  have hy7 := Tz.of hr (by decide)
  have d5 : w7.cell? ⟨g, 5, none⟩ = some (.int .i64 7) := o7.cell 5
  clear o6 hb6 hz6 hx7 hr
  go_wp2_with fail
  refine (hro _ _ _ hz7).mono ?_
  rintro e w8 ⟨rfl, hx8⟩
  have hb8 := hb7.trans (hx8.mono hb7.size)
  have hz8 := hz7.below hx8
  have hy8 := hy7.below hx8
  clear d5
  go_wp2_with fail
  refine (hu1 _ _ _ hy8).mono ?_
  rintro e w9 ⟨rfl, hx9⟩
  have hb9 := hb8.trans (hx9.mono hb8.size)
  have hz9 := hz8.below hx9
  go_wp2_with fail
  refine (hu2 _ _ _ hz9).mono ?_
  rintro e w10 ⟨rfl, hx10⟩
  have hb10 := hb9.trans (hx10.mono hb9.size)
  go_wp2_with fail
  go_ret
  exact ⟨rfl, hb10⟩
end Dw
end Go.Proofs.YtjfehloohpnmpaaDoor
