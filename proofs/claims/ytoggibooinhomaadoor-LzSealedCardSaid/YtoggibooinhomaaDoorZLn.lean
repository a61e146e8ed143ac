/-
  What the code's finder has captured; THE WALK of the closure that notes places.
-/
import Derived.Test.YtoggibooinhomaaDoorZLf
import Derived.Laws.EntriesVeiled
import Derived.StringKeys
namespace Go.Proofs.YtoggibooinhomaaDoor.Z
open Go.RowKit Go.Maps
set_option linter.unusedVariables false
set_option linter.unusedSimpArgs false
/-- block g is just these cells -/
def Own (w : World) (g : Nat) (t : TypeId) (cs : Array Value) : Prop := w.heap[g]? = some (.cells cs t (0, 0))
theorem Own.cell {w : World} {g : Nat} {t : TypeId} {cs : Array Value} (h : Own w g t cs) (i : Nat) : w.cell? ⟨g, i, none⟩ = cs[i]? := by
  unfold Own at h; simp [World.cell?, h]
theorem Own.frozen {w : World} {g : Nat} {t : TypeId} {cs : Array Value} (h : Own w g t cs) (i : Nat) : w.frozen? ⟨g, i, none⟩ = false := by
  unfold Own at h; simp [World.frozen?, h]
theorem Own.lt {w : World} {g : Nat} {t : TypeId} {cs : Array Value} (h : Own w g t cs) : g < w.heap.size := lt_of_block h
theorem Own.set {w : World} {g : Nat} {t : TypeId} {cs : Array Value} (h : Own w g t cs) (i : Nat) (u : Value) : Own (w.setCell ⟨g, i, none⟩ u) g t (cs.setIfInBounds i u) := by
  unfold Own at h ⊢
  simp [World.setCell, Array.getElem?_modify, h]
theorem Own.grown {w w' : World} {g : Nat} {t : TypeId} {cs : Array Value} (h : Own w g t cs) {b : Nat} (k : w.grownBy w' (some b)) (hne : g ≠ b) : Own w' g t cs :=
  (k.block g h.lt (fun e => hne (by injection e))).trans h
theorem Own.other {w : World} {g : Nat} {t : TypeId} {cs : Array Value} (h : Own w g t cs) {b : Nat} (hne : g ≠ b) (i : Nat) (u : Value) : Own (w.setCell ⟨b, i, none⟩ u) g t cs :=
  (Below.heap_setCell _ _ _ _ hne).trans h
/-- but for the blocks in S, the world is as it was -/
structure Chg (S : Nat → Prop) (w w' : World) : Prop where
  os : w'.os = w.os
  tape : w'.tape = w.tape
  output : w'.output = w.output
  size : w.heap.size ≤ w'.heap.size
  block : ∀ k, k < w.heap.size → ¬ S k → w'.heap[k]? = w.heap[k]?
theorem Chg.refl (S : Nat → Prop) (w : World) : Chg S w w := ⟨rfl, rfl, rfl, Nat.le_refl _, fun _ _ _ => rfl⟩
theorem Chg.trans {S : Nat → Prop} {a b c : World} (h : Chg S a b) (k : Chg S b c) : Chg S a c :=
  ⟨k.os.trans h.os, k.tape.trans h.tape, k.output.trans h.output, Nat.le_trans h.size k.size, fun i hi hs => (k.block i (Nat.lt_of_lt_of_le hi h.size) hs).trans (h.block i hi hs)⟩
theorem Chg.set {S : Nat → Prop} {a w : World} (h : Chg S a w) {g : Nat} (hg : S g) (i : Nat) (u : Value) : Chg S a (w.setCell ⟨g, i, none⟩ u) :=
  h.trans ⟨rfl, rfl, rfl, by simp [World.setCell], fun k _ hk => Below.heap_setCell _ _ _ _ (fun e => hk (by rw [e]; exact hg))⟩
theorem Chg.grown {S : Nat → Prop} {a w w' : World} (h : Chg S a w) {g : Nat} (hg : S g) (k : w.grownBy w' (some g)) : Chg S a w' :=
  h.trans ⟨k.os, k.tape, k.output, k.size, fun i hi hs => k.block i hi (fun e => hs (by injection e with e; rw [e]; exact hg))⟩
theorem Chg.drew {S : Nat → Prop} {a w : World} (h : Chg S a w) : Chg S a w.drew := ⟨h.os, h.tape, h.output, h.size, h.block⟩
theorem Chg.drewN {S : Nat → Prop} {a w : World} (h : Chg S a w) (n : Nat) : Chg S a (w.drewN n) := h.trans ⟨rfl, rfl, rfl, Nat.le_refl _, fun _ _ _ => rfl⟩
theorem Chg.cell {S : Nat → Prop} {a w : World} (h : Chg S a w) {p : Addr} {v : Value} (hv : a.cell? p = some v) (hp : ¬ S p.block) : w.cell? p = some v := by
  rw [← hv]
  exact World.cell?_of_block (h.block _ (World.block_lt_of_cell? _ _ hv) hp)
theorem Chg.own {S : Nat → Prop} {a w : World} (h : Chg S a w) {g : Nat} {t : TypeId} {cs : Array Value} (hv : Own a g t cs) (hp : ¬ S g) : Own w g t cs :=
  (h.block g hv.lt hp).trans hv
theorem Chg.below {S : Nat → Prop} {a w : World} (h : Chg S a w) {B : Nat} (hB : ∀ k, k < B → k < a.heap.size ∧ ¬ S k) : Below B a w :=
  ⟨h.os, h.tape, h.output, h.size, fun k hk => h.block k (hB k hk).1 (hB k hk).2⟩
theorem Chg.buf {S : Nat → Prop} {a w : World} (h : Chg S a w) {B : Nat} (hS : ∀ k, S k → k < B) {v : Value} {l : List UInt8} {W0 : World} (hb : Buf B v l W0 a) : Buf B v l w w := by
  refine ⟨⟨hb.1.1, ?_⟩, Below.refl _ _, Nat.le_trans hb.2.2 h.size⟩
  rcases hb.1.2 with h1 | ⟨g, c, cur, fz, h1, h2, h3, h4⟩
  · exact .inl h1
  · exact .inr ⟨g, c, cur, fz, h1, h2, (h.block g (lt_of_block h3) (fun hs => by have := hS g hs; omega)).trans h3, h4⟩
/-- the blocks that turn: the map, the chain, and how far it goes -/
def Mv (N : Nat) (k : Nat) : Prop := k = N + 2 ∨ k = N + 4 ∨ k = N + 6
/-- what the map holds: of each beginning the last place, and one more -/
def Lasts (l : List UInt8) (m : Nat) (D : DataW Unit) : Prop := IsMap D ∧ ∀ x : List UInt8, D.atKey (.string x) (.lit (.int .i64 0)) = .lit (.int .i64 (Lz.prv l x m + 1))
theorem lasts_nil (l : List UInt8) : Lasts l 0 (.map []) := ⟨⟨_, rfl⟩, fun x => rfl⟩
theorem lasts_put {l : List UInt8} {m : Nat} {D : DataW Unit} (h : Lasts l m D) : Lasts l (m + 1) (D.put (.string (Lz.wd l m)) (.lit (.int .i64 ((m : Int) + 1)))) := by
  refine ⟨?_, fun x => ?_⟩
  · obtain ⟨es, rfl⟩ := h.1
    exact ⟨_, rfl⟩
  · unfold Lz.prv
    by_cases e : Lz.wd l m = x
    · subst e
      rw [if_pos rfl, atKey_put_same h.1 (by trivial)]
    · rw [if_neg e, atKey_put_other (fun q => e (by injection q with q; exact q.symm)), h.2]
/-- the chain as far as it goes -/
def Chain (l : List UInt8) (m : Nat) (cs : Array Value) : Prop := cs.size = l.length ∧ (∀ j, j < m → cs[j]? = some (.int .i64 (Lz.prv l (Lz.wd l j) j))) ∧ ∀ j, j < l.length → ∃ v, cs[j]? = some (.int .i64 v)
theorem chain_put {l : List UInt8} {m : Nat} {cs : Array Value} (h : Chain l m cs) (hm : m < l.length) : Chain l (m + 1) (cs.setIfInBounds m (.int .i64 (Lz.prv l (Lz.wd l m) m))) := by
  have hs := h.1
  refine ⟨by simpa using h.1, fun j hj => ?_, fun j hj => ?_⟩
  · by_cases e : j = m
    · subst e
      rw [Array.getElem?_setIfInBounds_self_of_lt (by omega)]
    · rw [Array.getElem?_setIfInBounds_ne (by omega)]
      exact h.2.1 j (by omega)
  · by_cases e : j = m
    · subst e
      exact ⟨_, Array.getElem?_setIfInBounds_self_of_lt (by omega)⟩
    · rw [Array.getElem?_setIfInBounds_ne (by omega)]
      exact h.2.2 j hj
/-- what the finder has captured: eight blocks from N on; so many places are noted -/
structure Fd (w : World) (N : Nat) (s : ByteArray) (m : Nat) : Prop where
  hs : w.cell? ⟨N, 0, none⟩ = some (.string s)
  hf : w.cell? ⟨N + 1, 0, none⟩ = some (.func (.func 18) #[] #[.pointer (some ⟨N, 0, none⟩)])
  hm : ∃ D : DataW Unit, w.ownsMap Tryd.prog 9 (plainElem Tryd.prog 3) (N + 2) m D ∧ Lasts (toL s) m D
  hl : w.cell? ⟨N + 3, 0, none⟩ = some (.map (some (N + 2)))
  hr : ∃ cs, Own w (N + 4) 3 cs ∧ Chain (toL s) m cs
  hp : w.cell? ⟨N + 5, 0, none⟩ = some (.slice (some ⟨N + 4, 0, none⟩) s.size s.size)
  hk : Own w (N + 6) 3 #[.int .i64 (m : Int)]
  hn : w.cell? ⟨N + 7, 0, none⟩ = some (.func (.func 19) #[] #[.pointer (some ⟨N + 6, 0, none⟩), .pointer (some ⟨N, 0, none⟩), .pointer (some ⟨N + 3, 0, none⟩), .pointer (some ⟨N + 5, 0, none⟩)])
  le : m ≤ s.size
theorem law9 : Keyed Tryd.prog 9 := string_keyed Tryd.underlying9
theorem zero3 (w : World) : (zeroValue 3).run Tryd.prog w = .ok (.int .i64 0) w := by kernel_rfl
theorem Fd.drewN {w : World} {N : Nat} {s : ByteArray} {m : Nat} (h : Fd w N s m) (n : Nat) : Fd (w.drewN n) N s m := ⟨h.hs, h.hf, h.hm, h.hl, h.hr, h.hp, h.hk, h.hn, h.le⟩
theorem toL_wd (s : ByteArray) (m : Nat) (h : m + 4 ≤ s.size) : toL (s.extract m (m + 4)) = Lz.wd (toL s) m := by
  rw [toL_extract _ _ _ h, List.drop_take, show m + 4 - m = 4 from by omega]
  rfl
theorem not_mv {N k : Nat} (h2 : k ≠ N + 2) (h4 : k ≠ N + 4) (h6 : k ≠ N + 6) : ¬ Mv N k := fun h => by
  rcases h with h | h | h
  · exact h2 h
  · exact h4 h
  · exact h6 h
theorem fd_step {w w5 : World} {N m : Nat} {s : ByteArray} (h : Fd w N s m) (hm : m < s.size) {pv : Int} {cs : Array Value} (hcs : Own w (N + 4) 3 cs) (HQ : Chain (toL s) (m + 1) (cs.setIfInBounds m (.int .i64 pv)))
    (hg : (w.setCell ⟨N + 4, m, none⟩ (.int .i64 pv)).grownBy w5 (some (N + 2))) {D : DataW Unit} (hown : w5.ownsMap Tryd.prog 9 (plainElem Tryd.prog 3) (N + 2) (m + 1) D) (HP : Lasts (toL s) (m + 1) D) :
    Fd (w5.setCell ⟨N + 6, 0, none⟩ (.int .i64 ((m : Int) + 1))) N s (m + 1) ∧ Chg (Mv N) w (w5.setCell ⟨N + 6, 0, none⟩ (.int .i64 ((m : Int) + 1))) := by
  have c1 : Chg (Mv N) w (w.setCell ⟨N + 4, m, none⟩ (.int .i64 pv)) := (Chg.refl _ _).set (.inr (.inl rfl)) _ _
  have c2 : Chg (Mv N) w w5 := c1.grown (.inl rfl) hg
  have c3 : Chg (Mv N) w (w5.setCell ⟨N + 6, 0, none⟩ (.int .i64 ((m : Int) + 1))) := c2.set (.inr (.inr rfl)) _ _
  refine ⟨⟨c3.cell h.hs (not_mv (by simp) (by simp) (by simp)), c3.cell h.hf (not_mv (by simp) (by simp) (by simp)), ⟨D, hown.setCell (by simp) _, HP⟩, c3.cell h.hl (not_mv (by simp) (by simp) (by simp)), ⟨_, ?_, HQ⟩, c3.cell h.hp (not_mv (by simp) (by simp) (by simp)), ?_, c3.cell h.hn (not_mv (by simp) (by simp) (by simp)), by omega⟩, c3⟩
  · exact ((hcs.set m _).grown hg (by simp)).other (by simp) _ _
  · have := ((h.hk.other (b := N + 4) (by simp) m (.int .i64 pv)).grown hg (by simp)).set 0 (.int .i64 ((m : Int) + 1))
    simpa using this
set_option maxRecDepth 100000 in
set_option maxHeartbeats 2000000 in
theorem note_any (N : Nat) (s : ByteArray) (m at' : Nat) (w : World) (h : Fd w N s m) (hs : s.size ≤ 1000000) (ha : m ≤ at') (ha2 : at' ≤ s.size) :
    Calls Tryd.prog 19 #[.int .i64 at', .pointer (some ⟨N + 6, 0, none⟩), .pointer (some ⟨N, 0, none⟩), .pointer (some ⟨N + 3, 0, none⟩), .pointer (some ⟨N + 5, 0, none⟩)] w fun e w' =>
      e = .returned (.tuple #[]) ∧ Chg (Mv N) w w' ∧ ∃ m', Fd w' N s m' ∧ m' ≤ at' ∧ (at' + 4 ≤ s.size → m' = at') := by
  go_enter Tryd.func19, Tryd.ntmps19
  go_wp2_with fail
  go_loopw [] (fun wr => ∃ m' : Nat, m' ≤ at' ∧ Hid (Fd wr N s m') ∧ Hid (Chg (Mv N) w wr)) (fun wr => at' - (match wr.cell? ⟨N + 6, 0, none⟩ with | some (.int _ x) => x.toNat | _ => 0))
  case atStart => exact ⟨m, ha, h, Chg.refl _ _⟩
  case round =>
    obtain ⟨m', hm', hF, hC⟩ := hrel
    have k0 := hF.out.hk.cell 0
    have kf := hF.out.hk.frozen 0
    have s0 := hF.out.hs
    have l0 := hF.out.hl
    have p0 := hF.out.hp
    simp at k0
    by_cases c1 : m' < at'
    · by_cases c2 : m' + 4 ≤ s.size
      · obtain ⟨D, hown, hD⟩ := hF.out.hm
        obtain ⟨cs, hcs, hch⟩ := hF.out.hr
        obtain ⟨v0, e0⟩ := hch.2.2 m' (by rw [toL_len]; omega)
        have r0 := hcs.cell m'
        rw [e0] at r0
        have rf := hcs.frozen m'
        have hkey : keyOf Tryd.prog 9 (.string (s.extract m' (m' + 4))) = some (.string (Lz.wd (toL s) m')) := by
          rw [← toL_wd s m' c2]
          exact WideMaps.keyOf_string_mk Tryd.underlying9 (by unfold maxLen; rw [ByteArray.size_extract]; omega)
        have hat := hD.2 (Lz.wd (toL s) m')
        have hbd := Lz.prv_bd (toL s) (Lz.wd (toL s) m') m'
        have HP := Lib.hid (lasts_put hD)
        have HQ := Lib.hid (chain_put hch (by rw [toL_len]; omega))
        have HCS := Lib.hid hcs
        have C1 := Lib.hid c1
        generalize Lz.prv (toL s) (Lz.wd (toL s) m') m' = pv at *
        clear e0 hch hcs hD
        go_wp2_with (first
          | (at_lookup; go_must (refine wpList_lookup_own_int _ rfl _ _ 50 rfl 9 3 .i64 law9 Tryd.underlying50 Tryd.underlying3 (zero3 _) (N + 2) _ _ rfl hown _ _ rfl hkey ?_; intro c hat2 hwc; rw [hat] at hat2; obtain rfl : c = pv + 1 := by (have := hat2; simp at this; omega)))
          | (at_mapUpdate; go_must (refine wpList_mapUpdate_own _ rfl _ _ _ 50 rfl 9 3 law9 Tryd.underlying50 _ (N + 2) _ _ rfl (hown.setCell (by simp) _) (by unfold maxLen; omega) _ _ _ rfl rfl hkey _ [] (plainElem_int Tryd.underlying3 (WalkArith.wf_i64 (by omega))) ?_; intro w5 hown1 hgrow1; have ok5 := (hF.out.hk.other (b := N + 4) (by omega) m' (.int .i64 pv)).grown hgrow1 (by omega); have k5 := ok5.cell 0; have kf5 := ok5.frozen 0; simp at k5)))
        have hst := fd_step hF.out (by omega) HCS.out HQ.out hgrow1 hown1 HP.out
        go_roundw
        case rel => exact ⟨m' + 1, by omega, hst.1, hC.out.trans hst.2⟩
        case measure =>
          have e := hst.1.hk.cell 0
          rw [e, k0]
          simp
          exact Nat.sub_lt_sub_left C1.out (Nat.lt_succ_self _)
      · have HE : Hid (Fd wr N s m' ∧ m' ≤ at' ∧ (at' + 4 ≤ s.size → m' = at')) := ⟨hF.out, hm', fun _ => by omega⟩
        go_wp2_with fail
        go_end0
        exact ⟨rfl, hC.out, _, HE.out⟩
    · have HE : Hid (Fd wr N s m' ∧ m' ≤ at' ∧ (at' + 4 ≤ s.size → m' = at')) := ⟨hF.out, hm', fun _ => by omega⟩
      go_wp2_with fail
      go_end0
      exact ⟨rfl, hC.out, _, HE.out⟩
end Go.Proofs.YtoggibooinhomaaDoor.Z
