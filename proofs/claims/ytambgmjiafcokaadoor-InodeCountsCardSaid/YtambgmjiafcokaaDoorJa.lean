/-
  What the laws of inodes stand on: two inodes compared; what is answered, world-free; the bound on what is looked at; the chapter's example.
-/
import Derived.Test.YtambgmjiafcokaaDoorIz
import Derived.Laws.StructEq
namespace Go.Proofs.YtambgmjiafcokaaDoor
set_option linter.unusedVariables false
set_option maxRecDepth 100000
set_option linter.unusedSimpArgs false
open Go.RowKit
namespace Dw
open _root_.Go.Proofs.YtambgmjiafcokaaDoor.Nm
def Eq27 (cs : Array Value) : Prop := ∀ w, (Op.equalIn 10000 27 (.agg cs) (.agg cs)).run Tryd.prog w = .ok true w
def six (f : Nat → Int) : Array Value := #[.int .i64 (f 0), .int .i64 (f 1), .int .i64 (f 2), .int .i64 (f 3), .int .i64 (f 4), .int .i64 (f 5)]
theorem six_get (f : Nat → Int) : ∀ i, i < 6 → (six f)[i]? = some (.int .i64 (f i))
  | 0, _ => rfl | 1, _ => rfl | 2, _ => rfl | 3, _ => rfl | 4, _ => rfl | 5, _ => rfl
  | n + 6, h => by omega
theorem six_items (f : Nat → Int) (d : Nat) (w : World) : ∀ is : List Nat, (∀ i ∈ is, i < 6) → (Op.eqItems (d + 1) 3 1 (six f) (six f) is).run Tryd.prog w = .ok true w
  | [], _ => by simp [Op.eqItems]
  | i :: is, h => by
    have hi := six_get f i (h i (by simp))
    have hp := run_part_plain (P := Tryd.prog) (w := w) (e := 3) (xs := six f) (off := i * 1) (by kernel_rfl) (by rw [Nat.mul_one]; exact hi)
    have he : (Op.equalIn (d + 1) 3 (.int .i64 (f i)) (.int .i64 (f i))).run Tryd.prog w = .ok true w := by
      simp [Op.equalIn, run_underlying Tryd.underlying3]
    simp only [Op.eqItems, Sem.run_bind, hp, Result.andThen_ok, he]
    simpa using six_items f d w is fun j hj => h j (by simp [hj])
theorem six_same (f : Nat → Int) (w : World) : (Op.equalIn 9999 25 (.agg (six f)) (.agg (six f))).run Tryd.prog w = .ok true w := by
  obtain ⟨i, hi, _⟩ := Option.map_eq_some_iff.1 info3
  rw [show (9999 : Nat) = 9998 + 1 from rfl, run_equalIn_array (w := w) 9998 (six f) (six f) Tryd.underlying25 hi, show Tryd.prog.cellsOf 3 = 1 from by kernel_rfl]
  exact six_items f 9997 w _ fun j hj => List.mem_range.1 hj
theorem ic_eq (X : Nat → Int) : Eq27 (ic X) := fun w => by
  have h6 := six_same (fun i => X (4 + i)) w
  rw [show (10000 : Nat) = 9999 + 1 from rfl, run_equalIn_struct (w := w) 9999 27 _ _ (by kernel_rfl) (by kernel_rfl)]
  unfold ic
  simp [Program.fieldsOf, Tryd.underlying27]
  unfold six at h6
  simp only [Nat.add_zero, Nat.reduceAdd] at h6
  go_simp
theorem exec_eq27 {cs : Array Value} (h : Eq27 cs) (w : World) (ρ : Operand → Value) (x y : Operand) (hx : ρ x = .agg cs) (hy : ρ y = .agg cs) (o : Oper) (ho : o.op = .binOp .eql 27 x y 27) : (execOp ρ o).run Tryd.prog w = .ok (.value (.bool true)) w := by
  have hg := run_eqGuard_agg (P := Tryd.prog) (w := w) .eql 27 x y cs cs (by kernel_rfl)
  have hb := run_eql_struct (P := Tryd.prog) (w := w) 27 cs cs
  rw [h w] at hb
  unfold execOp
  simp only [ho, hx, hy, Sem.run_bind, hg, hb, Result.andThen_ok, Sem.run_pure]
theorem exec_ne27 {cs : Array Value} (h : Eq27 cs) (w : World) (ρ : Operand → Value) (x y : Operand) (hx : ρ x = .agg cs) (hy : ρ y = .agg cs) (o : Oper) (ho : o.op = .binOp .neq 27 x y 27) : (execOp ρ o).run Tryd.prog w = .ok (.value (.bool false)) w := by
  have hg := run_eqGuard_agg (P := Tryd.prog) (w := w) .neq 27 x y cs cs (by kernel_rfl)
  have hb := run_neq_struct (P := Tryd.prog) (w := w) 27 cs cs
  rw [h w] at hb
  unfold execOp
  simp only [ho, hx, hy, Sem.run_bind, hg, hb, Result.andThen_ok, Sem.run_pure]
  rfl
theorem ne27 {ops : Array Oper} {rest : List Oper} {o : Oper} {a : Act} {w : World} {Q : Exit → Act → World → Prop} {x y : Operand} {X : Nat → Int}
    (hgd : Region.wanted o (yielded ops a.tmps) = true) (ho : o.op = .binOp .neq 27 x y 27) (hx : a.eval x = .agg (ic X)) (hy : a.eval y = .agg (ic X))
    (h : wpList Tryd.prog ops Q rest (a.put o.dst (.bool false)) w) : wpList Tryd.prog ops Q (o :: rest) a w := by
  show (if Region.wanted o (yielded ops a.tmps) then o.wp Tryd.prog a w (wpList Tryd.prog ops Q rest) Q ∨ (o.asks Tryd.prog a w ∧ LetsOut Q) else wpList Tryd.prog ops Q rest (a.put o.dst undef) w)
  rw [if_pos hgd]
  refine .inl ?_
  have e := exec_ne27 (ic_eq X) w a.eval x y hx hy o ho
  unfold Oper.wp
  rw [e]
  exact h
theorem eq27 {ops : Array Oper} {rest : List Oper} {o : Oper} {a : Act} {w : World} {Q : Exit → Act → World → Prop} {x y : Operand} {X : Nat → Int}
    (hgd : Region.wanted o (yielded ops a.tmps) = true) (ho : o.op = .binOp .eql 27 x y 27) (hx : a.eval x = .agg (ic X)) (hy : a.eval y = .agg (ic X))
    (h : wpList Tryd.prog ops Q rest (a.put o.dst (.bool true)) w) : wpList Tryd.prog ops Q (o :: rest) a w := by
  show (if Region.wanted o (yielded ops a.tmps) then o.wp Tryd.prog a w (wpList Tryd.prog ops Q rest) Q ∨ (o.asks Tryd.prog a w ∧ LetsOut Q) else wpList Tryd.prog ops Q rest (a.put o.dst undef) w)
  rw [if_pos hgd]
  refine .inl ?_
  have e := exec_eq27 (ic_eq X) w a.eval x y hx hy o ho
  unfold Oper.wp
  rw [e]
  exact h
theorem ld27w {ops : Array Oper} {rest : List Oper} {o : Oper} {a : Act} {w : World} {Q : Exit → Act → World → Prop} {x : Operand} {g : Nat} {X : Nat → Int}
    (hgd : Region.wanted o (yielded ops a.tmps) = true) (ho : o.op = .load 27 x) (hx : a.eval x = .pointer (some ⟨g, 0, none⟩)) (hg : Nm.Own w g 27 (ic X))
    (h : wpList Tryd.prog ops Q rest (a.put o.dst (.agg (ic X))) w) : wpList Tryd.prog ops Q (o :: rest) a w := by
  show (if Region.wanted o (yielded ops a.tmps) then o.wp Tryd.prog a w (wpList Tryd.prog ops Q rest) Q ∨ (o.asks Tryd.prog a w ∧ LetsOut Q) else wpList Tryd.prog ops Q rest (a.put o.dst undef) w)
  rw [if_pos hgd]
  exact .inl (wp_load_row 27 x ho g hx 27 _ (0, 0) _ hg Tryd.underlying27 rfl (by rw [ic_size]; exact info27) h)
/-- what getting answers is told by the row -/
theorem GetIs.form {l : List ByteArray} {n : Int} {e : Ending} (h : GetIs l n e) : ∃ Y k, e = .returned (.tuple #[.agg (ic Y), .int .i64 k]) := by
  rcases h with ⟨_, rfl⟩ | ⟨_, _, _, _, rfl⟩ | ⟨_, _, _, _, _, _, _, rfl⟩
  · exact ⟨_, _, rfl⟩
  · exact ⟨_, _, rfl⟩
  · exact ⟨_, _, rfl⟩
theorem GetIs.uniq {l : List ByteArray} {n : Int} {e e' : Ending} (h : GetIs l n e) (h' : GetIs l n e') : e' = e := by
  rcases h with ⟨hn, rfl⟩ | ⟨b, m, hv, hx, rfl⟩ | ⟨b, m, j, hv, hj, h1, h2, rfl⟩ <;>
    rcases h' with ⟨hn', rfl⟩ | ⟨b', m', hv', hx', rfl⟩ | ⟨b', m', j', hv', hj', h1', h2', rfl⟩
  all_goals first
    | rfl
    | exact absurd hv' (hn _ _)
    | exact absurd hv (hn' _ _)
    | (obtain ⟨rfl, rfl⟩ := hv.uniq hv'
       first
         | (obtain rfl : j = j' := by omega
            rfl)
         | omega)
/-- what comes of putting -/
def PtP (l : List ByteArray) (n : Int) (X : Nat → Int) (c : Nat) (k : Int) (L : List ByteArray) : Prop :=
  ((∀ b m, ¬ Vol l b m) ∧ c = 0 ∧ k = 3 ∧ L = []) ∨
  (∃ b m, Vol l b m ∧ (n < 1 ∨ (m : Int) < n) ∧ c = 0 ∧ k = 2 ∧ L = []) ∨
  (∃ b m j : Nat, Vol l b m ∧ n = ((j : Nat) : Int) ∧ 1 ≤ j ∧ j ≤ m ∧ ¬ Ni.Fit X ∧ c = 0 ∧ k = 1 ∧ L = []) ∨
  (∃ b m j : Nat, Vol l b m ∧ n = ((j : Nat) : Int) ∧ 1 ≤ j ∧ j ≤ m ∧ Ni.Fit X ∧ c = b ∧ k = 0 ∧ L = putL l j X)
theorem put_p {l : List ByteArray} {n : Int} {X : Nat → Int} {B : Nat} {e : Ending} {w' : World} (h : PutIs l n X B e w') : ∃ A c c' k L, e = .returned (.tuple #[.slice A c c', .int .i64 k]) ∧ Tz w' A c c' L ∧ PtP l n X c k L := by
  rcases h with ⟨hn, rfl⟩ | ⟨b, m, hv, hx, rfl⟩ | ⟨b, m, j, hv, hj, h1, h2, h3, rfl⟩ | ⟨b, m, j, A', c', hv, hj, h1, h2, h3, rfl, hr⟩
  · exact ⟨_, _, _, _, [], rfl, Tz.nil _, .inl ⟨hn, rfl, rfl, rfl⟩⟩
  · exact ⟨_, _, _, _, [], rfl, Tz.nil _, .inr (.inl ⟨b, m, hv, hx, rfl, rfl, rfl⟩)⟩
  · exact ⟨_, _, _, _, [], rfl, Tz.nil _, .inr (.inr (.inl ⟨b, m, j, hv, hj, h1, h2, h3, rfl, rfl, rfl⟩))⟩
  · exact ⟨_, _, _, _, _, rfl, Tz.of hr (by have := hv.lt; omega), .inr (.inr (.inr ⟨b, m, j, hv, hj, h1, h2, h3, rfl, rfl, rfl⟩))⟩
theorem PtP.uniq {l : List ByteArray} {n : Int} {X : Nat → Int} {c c' : Nat} {k k' : Int} {L L' : List ByteArray} (h : PtP l n X c k L) (h' : PtP l n X c' k' L') : c' = c ∧ k' = k ∧ L' = L := by
  rcases h with ⟨hn, rfl, rfl, rfl⟩ | ⟨b, m, hv, hx, rfl, rfl, rfl⟩ | ⟨b, m, j, hv, hj, h1, h2, h3, rfl, rfl, rfl⟩ | ⟨b, m, j, hv, hj, h1, h2, h3, rfl, rfl, rfl⟩ <;>
    rcases h' with ⟨hn', rfl, rfl, rfl⟩ | ⟨b', m', hv', hx', rfl, rfl, rfl⟩ | ⟨b', m', j', hv', hj', h1', h2', h3', rfl, rfl, rfl⟩ | ⟨b', m', j', hv', hj', h1', h2', h3', rfl, rfl, rfl⟩
  all_goals first
    | exact ⟨rfl, rfl, rfl⟩
    | exact absurd hv' (hn _ _)
    | exact absurd hv (hn' _ _)
    | exact absurd h3' h3
    | exact absurd h3 h3'
    | (obtain ⟨rfl, rfl⟩ := hv.uniq hv'
       first
         | (obtain rfl : j = j' := by omega
            exact ⟨rfl, rfl, rfl⟩)
         | omega)
/-- what comes of taking -/
def NwP (l : List ByteArray) (kind owner : Int) (c : Nat) (n k : Int) (L : List ByteArray) : Prop :=
  ((∀ b m, ¬ Vol l b m) ∧ c = 0 ∧ n = 0 ∧ k = 3 ∧ L = []) ∨
  (∃ b m, Vol l b m ∧ ¬ okNew kind owner ∧ c = 0 ∧ n = 0 ∧ k = 1 ∧ L = []) ∨
  (∃ b m, Vol l b m ∧ okNew kind owner ∧ Non l m ∧ c = 0 ∧ n = 0 ∧ k = 10 ∧ L = []) ∨
  (∃ b m j, Vol l b m ∧ okNew kind owner ∧ Fre l m j ∧ c = b ∧ n = ((j : Nat) : Int) ∧ k = 0 ∧ L = putL l j (newX kind owner))
theorem new_p {l : List ByteArray} {kind owner : Int} {B : Nat} {e : Ending} {w' : World} (h : NewIs l kind owner B e w') : ∃ A c c' n k L, e = .returned (.tuple #[.slice A c c', .int .i64 n, .int .i64 k]) ∧ Tz w' A c c' L ∧ NwP l kind owner c n k L := by
  rcases h with ⟨hn, rfl⟩ | ⟨b, m, hv, hx, rfl⟩ | ⟨b, m, hv, h1, h2, rfl⟩ | ⟨b, m, j, A', c', hv, h1, h2, rfl, hr⟩
  · exact ⟨_, _, _, _, _, [], rfl, Tz.nil _, .inl ⟨hn, rfl, rfl, rfl, rfl⟩⟩
  · exact ⟨_, _, _, _, _, [], rfl, Tz.nil _, .inr (.inl ⟨b, m, hv, hx, rfl, rfl, rfl, rfl⟩)⟩
  · exact ⟨_, _, _, _, _, [], rfl, Tz.nil _, .inr (.inr (.inl ⟨b, m, hv, h1, h2, rfl, rfl, rfl, rfl⟩))⟩
  · exact ⟨_, _, _, _, _, _, rfl, Tz.of hr (by have := hv.lt; omega), .inr (.inr (.inr ⟨b, m, j, hv, h1, h2, rfl, rfl, rfl, rfl⟩))⟩
theorem NwP.uniq {l : List ByteArray} {kind owner : Int} {c c' : Nat} {n n' k k' : Int} {L L' : List ByteArray} (h : NwP l kind owner c n k L) (h' : NwP l kind owner c' n' k' L') : c' = c ∧ n' = n ∧ k' = k ∧ L' = L := by
  rcases h with ⟨hn, rfl, rfl, rfl, rfl⟩ | ⟨b, m, hv, hx, rfl, rfl, rfl, rfl⟩ | ⟨b, m, hv, h1, h2, rfl, rfl, rfl, rfl⟩ | ⟨b, m, j, hv, h1, h2, rfl, rfl, rfl, rfl⟩ <;>
    rcases h' with ⟨hn', rfl, rfl, rfl, rfl⟩ | ⟨b', m', hv', hx', rfl, rfl, rfl, rfl⟩ | ⟨b', m', hv', h1', h2', rfl, rfl, rfl, rfl⟩ | ⟨b', m', j', hv', h1', h2', rfl, rfl, rfl, rfl⟩
  all_goals first
    | exact ⟨rfl, rfl, rfl, rfl⟩
    | exact absurd hv' (hn _ _)
    | exact absurd hv (hn' _ _)
    | exact absurd h1' hx
    | exact absurd h1 hx'
    | (obtain ⟨rfl, rfl⟩ := hv.uniq hv'
       first
         | (obtain rfl := h2.uniq h2'
            exact ⟨rfl, rfl, rfl, rfl⟩)
         | exact (h2.not h2').elim
         | exact (h2'.not h2).elim)
/-- what all are -/
def AlP (l : List ByteArray) (L : List Int) : Prop := ((∀ b m, ¬ Vol l b m) ∧ L = []) ∨ (∃ b m, Vol l b m ∧ L = allL l m)
theorem all_p {l : List ByteArray} {B : Nat} {e : Ending} {w' : World} (h : AllIs l B e w') : ∃ A n c L, e = .returned (.slice A n c) ∧ RI w' B A n c L ∧ AlP l L := by
  rcases h with ⟨hn, rfl⟩ | ⟨b, m, A, n, c, hv, rfl, hr⟩
  · exact ⟨_, _, _, [], rfl, RI.nil _ _, .inl ⟨hn, rfl⟩⟩
  · exact ⟨_, _, _, _, rfl, hr, .inr ⟨b, m, hv, rfl⟩⟩
theorem AlP.uniq {l : List ByteArray} {L L' : List Int} (h : AlP l L) (h' : AlP l L') : L' = L := by
  rcases h with ⟨hn, rfl⟩ | ⟨b, m, hv, rfl⟩ <;> rcases h' with ⟨hn', rfl⟩ | ⟨b', m', hv', rfl⟩
  · rfl
  · exact absurd hv' (hn _ _)
  · exact absurd hv (hn' _ _)
  · obtain ⟨rfl, rfl⟩ := hv.uniq hv'; rfl
theorem AlP.len {l : List ByteArray} {L : List Int} (h : AlP l L) : L.length ≤ 64 := by
  rcases h with ⟨hn, rfl⟩ | ⟨b, m, hv, rfl⟩
  · decide
  · have := allL_length l m
    have := hv.lt
    omega
def GrIs (e : Ending) : Prop := e = .returned (.int .i64 1) ∨ e = .returned (.int .i64 0)
set_option maxHeartbeats 1000000 in
theorem great_any (A : Option Addr) (n c : Nat) (l : List ByteArray) (w : World) (h : Tz w A n c l) (hL : Lit l n) :
    Calls Tryd.prog 11 #[.slice A n c] w fun e w' => GrIs e ∧ w = w' := by
  have hm := h.m
  by_cases h80 : 80 < n
  · have g : (80 : Int) < (n : Int) := by omega
    go_enter Tryd.func11, Tryd.ntmps11
    go_wp2_with fail
    go_ret
    exact ⟨.inl rfl, rfl⟩
  · have g : ¬ (80 : Int) < (n : Int) := by omega
    go_enter Tryd.func11, Tryd.ntmps11
    go_wp2_with fail
    go_loop [3] (fun i => ∃ k : Nat, k ≤ n ∧ i = .int .i64 k) (fun i => n - (intOf i).toNat)
    case atStart => exact ⟨0, Nat.zero_le _, rfl⟩
    case round =>
      obtain ⟨k, hk, rfl⟩ := hrel
      by_cases hlt : k < n
      · obtain ⟨b, off, rfl, hc⟩ := h.t.2 (by omega)
        have c1 := hc k hlt
        have b1 : (k : Int) < (n : Int) := by omega
        have e3 : IntKind.i64.wrap ((k : Int) + 1) = (k : Int) + 1 := IntWalk.i64_in _ (by omega)
        have hs := hL k hlt
        clear hc
        generalize nth l k = T at *
        by_cases hT : 200 < T.size
        · have g2 : (200 : Int) < (T.size : Int) := by omega
          go_wp2_with fail
          go_ret
          exact ⟨.inl rfl, rfl⟩
        · have g2 : ¬ (200 : Int) < (T.size : Int) := by omega
          go_wp2_with fail
          go_round
          case rel => exact ⟨k + 1, by omega, by go_num⟩
          case measure => simp [intOf]; omega
      · obtain rfl : k = n := by omega
        go_wp2_with fail
        go_ret
        exact ⟨.inr rfl, rfl⟩
set_option maxHeartbeats 2000000 in
theorem alive_any (w : World) : Calls Tryd.prog 10 #[] w fun e w' => e = .returned (.bool true) ∧ Below w.heap.size w w' := by
  have hf : Gm.fits 24 8 := by unfold Gm.fits Gm.dat; decide
  have hv := fmt_vol hf
  have hok : okNew 1 3 := by unfold okNew; omega
  have hfr : Fre (fmtL 24 8) 8 1 := ⟨by omega, by omega, fmt_free hf (by omega) (by omega) 0, fun j h1 h2 => by omega⟩
  have hput := put_vol hv (show 1 ≤ 1 by omega) (show 1 ≤ 8 by omega) (newX 1 3)
  have hgx : ic (getX (putL (fmtL 24 8) 1 (newX 1 3)) 1) = ic (newX 1 3) := ic_congr fun q hq => get_put hv (by omega) (by omega) (newX_fit hok) hq
  go_enter Tryd.func10, Tryd.ntmps10
  go_wp2_with fail
  refine (format_any 24 8 _).mono ?_
  rintro e w1 ⟨hfo, hb1⟩
  rcases hfo with ⟨K, hK, hE, _⟩ | ⟨x, y, A', c', hx, hy, _, rfl, hr⟩
  · exact absurd (hE.symm.trans (by decide)) hK
  · obtain rfl : x = 24 := by omega
    obtain rfl : y = 8 := by omega
    have hz := Tz.of hr (by omega)
    go_wp2_with fail
    refine (new_any A' 24 c' _ 1 3 _ hz hv.blk.lit).mono ?_
    rintro e w2 ⟨hn, hx2⟩
    have hb2 := hb1.trans (hx2.mono hb1.size)
    obtain ⟨A2, n2, c2, j2, k2, L2, rfl, hz2, hp⟩ := new_p hn
    obtain ⟨rfl, rfl, rfl, rfl⟩ := NwP.uniq (.inr (.inr (.inr ⟨24, 8, 1, hv, hok, hfr, rfl, rfl, rfl, rfl⟩))) hp
    clear hn hp hz hr hx2 hb1
    go_wp2_with fail
    refine (get_vol hz2 hput (show 1 ≤ 1 by omega) (show 1 ≤ 8 by omega) 1 rfl).mono ?_
    rintro e w3 ⟨rfl, hx3⟩
    rw [hgx]
    have hb3 := hb2.trans (hx3.mono hb2.size)
    have ox := Nm.Own.new w3 27 (ic zX)
    have hb4 := hb3.trans ((grow w3 (Obj.cells (ic zX) 27)).mono hb3.size)
    clear hz2 hx3 hb2
    go_wp2_with (refine sto27 (X := newX 1 3) rfl rfl rfl rfl ox ?_)
    intro w5 o5 s5
    have hb5 := s5.below hb4 hb3.size
    clear ox hb4 s5
    go_wp2_with (first | refine ld27w (by kernel_rfl) rfl rfl o5 ?_ | refine eq27 (X := newX 1 3) (by kernel_rfl) rfl rfl rfl ?_)
    go_ret
    exact ⟨rfl, hb5⟩
end Dw
end Go.Proofs.YtambgmjiafcokaaDoor
