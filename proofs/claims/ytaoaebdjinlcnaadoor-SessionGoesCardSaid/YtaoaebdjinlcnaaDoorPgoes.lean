/-
  For every end, every messages and whichever of them are lost: SessionGoes answers true (what comes is taken as it was sent, in order, and the answers are read), and the arguments read behind the call as they read before; the package variables are laid by the program's own text.
-/
import Derived.Test.YtaoaebdjinlcnaaDoorRows
import Derived.Test.YtaoaebdjinlcnaaDoorCards
import Derived.Test.YtaoaebdjinlcnaaDoorTie
import Derived.Test.YtaoaebdjinlcnaaDoorVk
import Derived.Test.YtaoaebdjinlcnaaDoorLa
import Derived.SliceStrings
import Derived.WalkKit
import Derived.ProofKit
import Derived.LaidMore
import Derived.OpenShut
import Derived.ShutString
import Derived.Stop.Joined
namespace Go.Proofs.YtaoaebdjinlcnaaDoor.sessionGoes
open Go.ChangeShapes Go.WideShapes Go.ChangeAt Go.RowKit
open Go.ChangeMaps (open_string shut_string)
set_option linter.unusedVariables false
set_option linter.unusedSimpArgs false

theorem own : ownKnob Tryd.prog.godebug = none := by kernel_rfl
theorem door_met (os : Os) (args : Array Value) : laidMetH Tryd.prog lay2 ((World.doorLaid Tryd.prog 400 os).forCall (fun _ _ => 0) ⟨#[], args, []⟩).memory :=
  laidMetH_of_parts3 (fuel := 8) (laidMet_of_run' 8 (by kernel_rfl) (by kernel_rfl)) (by kernel_rfl) (by kernel_rfl)
set_option maxRecDepth 100000
theorem addr_add' (b off i : Nat) : (⟨b, off, none⟩ : Addr).add i = ⟨b, off + i, none⟩ := Addr.add_mid b off i
theorem okStrs {H : Type} {enc : TypeId × Value → H} {W : World} {base : Nat} {v : Value} {d : DataW H} {p : List MemPlace} (hv : Value.okWide Tryd.prog W .any base 36 v)
    (h : DataW.Trod enc Tryd.prog W 0 (fun _ => true) true 36 v d p) :
    ∃ (A : Option Addr) (c : Nat) (xs : List ByteArray), v = .slice A xs.length c ∧ Pts W A xs ∧ xs.length ≤ c ∧ xs.length ≤ maxLen ∧ ∀ x ∈ xs, x.size ≤ maxLen := by
  obtain ⟨a, len, cap, rfl⟩ := okWide_slice Tryd.underlying36 hv
  obtain ⟨fuel, hf⟩ := h
  rcases open_strings Tryd.underlying36 Tryd.underlying9 (by kernel_rfl) hf with ⟨hcs, _⟩ | ⟨x, len', cap', ss, hcs, _, hl, hm, hz, hx, hcell, hss⟩
  · simp [Value.cells] at hcs
    obtain ⟨rfl, rfl, rfl⟩ := hcs
    exact ⟨none, 0, [], rfl, .inl rfl, by simp, by simp, fun x hx => by simp at hx⟩
  · simp [Value.cells] at hcs
    obtain ⟨rfl, rfl, rfl⟩ := hcs
    simp only [if_true] at hz
    have hlen : (ss.take len).length = len := by rw [List.length_take]; omega
    refine ⟨some x, cap, ss.take len, by rw [hlen], ?_, by omega, by omega, fun x hx => hss x (List.mem_of_mem_take hx)⟩
    by_cases h0 : len = 0
    · subst h0; exact .inl (by simp)
    · obtain ⟨b, off, spot⟩ := x
      have hspot : spot = none := by simpa [Addr.add] using World.cell?_spot (hcell 0 (by omega))
      subst hspot
      have h1 := hcell 0 (by omega)
      refine .inr ⟨b, off, rfl, ?_, fun i y hi => ?_⟩
      · rw [addr_add'] at h1
        exact World.block_lt_of_cell? _ _ h1
      · have hil : i < len := by
          have := List.getElem?_eq_some_iff.1 hi
          obtain ⟨h, _⟩ := this
          rw [hlen] at h; exact h
        have e := hcell i (by omega)
        rw [addr_add'] at e
        rw [e]
        rw [List.getElem?_take_of_lt hil] at hi
        rw [List.getD_eq_getElem?_getD, hi]; rfl
def okk : ByteArray := ⟨#[111, 107, 32]⟩
theorem ylk2 {ops : Array Oper} {X : World → Prop} {o : Oper} {a : Act} {c : Ch} {K : List Nat} (hl : c.K.length = 32) (e : c.K = K) (hw : Region.wanted o (yielded ops a.tmps) = true) (x : Operand) (ho : o.op = .load 24 x) (g : Nat)
    (hx : a.eval x = .pointer (some ⟨g, 2, none⟩)) (hS : ∀ w, X w → Cb w g c) : YieldsIf Tryd.prog ops X o (.agg (vs .u8 K)) a := by
  subst e
  exact ylk hw x ho g hx hS hl
theorem pts_cell {w : World} {A : Option Addr} {l : List ByteArray} (h : Pts w A l) {i : Nat} (hi : i < l.length) : ∃ g off, A = some ⟨g, off, none⟩ ∧ w.cell? ⟨g, off + i, none⟩ = some (.string l[i]) := by
  rcases h with rfl | ⟨g, off, rfl, _, hc⟩
  · simp at hi
  · exact ⟨g, off, rfl, hc i _ (by simp [hi])⟩
set_option maxRecDepth 100000 in
set_option maxHeartbeats 8000000 in
theorem walk (c : Ch) (A : Option Addr) (cc : Nat) (l : List ByteArray) (m : Nat) (hc : c.Ok) (hm : m < 4294967296) (w : World) (hT : Tab w) (hl : Pts w A l) :
    Calls Tryd.prog 5 #[.agg (chv c), .slice A l.length cc, .int .u32 (m : Int)] w fun e w' => e = .returned (.bool true) ∧ Below w.heap.size w w' := by
  have hfx := fun wr (h : Below w.heap.size w wr) => fixed_any wr (hT.below h)
  have k0 := Cb.new w c hc.k
  have b0 := grow w (Obj.cells (chv c) 26)
  go_enter Tryd.func5, Tryd.ntmps5
  go_upto_region 1 with fail
  generalize w.alloc (Obj.cells (chv c) 26) = W0 at *
  have c0 := k0.c0
  have c1 := k0.c1
  by_cases hbig : 30 < l.length ∨ 100 < c.m.size ∨ 1152921504606846976 < c.n
  · have dd : 30 < (l.length : Int) ∨ (¬ 30 < (l.length : Int) ∧ 100 < (c.m.size : Int)) ∨ (¬ 30 < (l.length : Int) ∧ ¬ 100 < (c.m.size : Int) ∧ 1152921504606846976 < (c.n : Int)) := by omega
    rcases dd with d0 | ⟨d0, d1⟩ | ⟨d0, d1, d3⟩ <;>
    · go_wp2_with fail
      refine (hfx _ b0).mono ?_
      rintro e w1 ⟨rfl, hx⟩
      replace b0 := b0.trans (hx.mono b0.size)
      go_wp2_with fail
      go_ret
      exact ⟨rfl, b0⟩
  · have d0 : ¬ 30 < (l.length : Int) := by omega
    have d1 : ¬ 100 < (c.m.size : Int) := by omega
    have d3 : ¬ 1152921504606846976 < (c.n : Int) := by omega
    have hzl : (List.replicate 32 0 : List Nat).length = 32 := by simp
    go_upto_region 3 with fail
    clear c0 c1
    go_cut [7, 8] from 36 to 37 (fun s7 s8 wc => ∃ g7 g8, s7 = .pointer (some ⟨g7, 0, none⟩) ∧ s8 = .pointer (some ⟨g8, 0, none⟩) ∧ w.heap.size + 1 ≤ g7 ∧ w.heap.size + 1 ≤ g8 ∧ g7 ≠ g8 ∧ Cb wc g7 c ∧ Cb wc g8 c ∧ Below w.heap.size w wc)
    case first =>
      refine wp_region_held_drew (S := fun V => Cb V w.heap.size c ∧ Below w.heap.size w V) (by kernel_rfl) ⟨k0.drew, b0.drew⟩ (fun hHeld => ?_)
      clear k0 b0
      generalize W0.drew = Y0 at *
      refine wpAnyH_take (i := 0) (oi := { dst := some 36, op := Op.load 26 (Operand.tmp 3), type := _, pos := _, after := _, guard := _ }) rfl (by kernel_rfl) (by kernel_rfl) (by kernel_rfl) (fun _ _ _ h => h) (yl26 (by rfl) _ rfl _ rfl (fun w1 h => h.1) hc.k) hHeld ?_
      try simp only [Act.put, List.setIfInBounds_toArray, List.set_cons_zero, List.set_cons_succ]
      refine wpAnyH_take (i := 1) (oi := { dst := some 37, op := Op.load 26 (Operand.tmp 3), type := _, pos := _, after := _, guard := _ }) rfl (by kernel_rfl) (by kernel_rfl) (by kernel_rfl) (fun _ _ _ h => h) (yl26 (by rfl) _ rfl _ rfl (fun w1 h => h.1) hc.k) hHeld ?_
      try simp only [Act.put, List.setIfInBounds_toArray, List.set_cons_zero, List.set_cons_succ]
      refine wpAnyH_ready (rs := [2, 3]) (by kernel_rfl) (by simp) ?_
      refine AllReadyH.cons (o := { dst := some 7, op := Op.alloc 26, type := _, pos := _, after := _, guard := _ }) rfl (fun KK hKK => ?_) ?_
      · have hKS := Lib.hid hKK
        clear hKK
        go_simp
        have gx := grow Y0 (Obj.cells (chv zCh) 26)
        have ge_p : w.heap.size + 1 ≤ Y0.heap.size := hHeld.1.lt
        refine hKS.out.out _ (Y0.alloc (Obj.cells (chv zCh) 26)) ⟨hHeld.1.below gx, hHeld.2.trans (gx.mono hHeld.2.size)⟩ (fun hHeld => ?_)
        have p := Cb.new Y0 zCh zCh_ok.k
        clear hKS KK gx
        generalize Y0.alloc (Obj.cells (chv zCh) 26) = a2 at *
        try simp only [Act.put, List.setIfInBounds_toArray, List.set_cons_zero, List.set_cons_succ]
        refine wpAnyH_ready (rs := [3]) (by kernel_rfl) (by simp) ?_
        refine AllReadyH.cons (o := { dst := some 8, op := Op.alloc 26, type := _, pos := _, after := _, guard := _ }) rfl (fun KK hKK => ?_) AllReadyH.nil
        have hKS := Lib.hid hKK
        clear hKK
        go_simp
        have lt_p := p.lt
        have gx := grow a2 (Obj.cells (chv zCh) 26)
        have ge_q : w.heap.size + 1 ≤ a2.heap.size := hHeld.1.lt
        refine hKS.out.out _ (a2.alloc (Obj.cells (chv zCh) 26)) ⟨hHeld.1.below gx, hHeld.2.trans (gx.mono hHeld.2.size)⟩ (fun hHeld => ?_)
        have q := Cb.new a2 zCh zCh_ok.k
        replace p := p.below gx
        clear hKS KK gx
        generalize a2.alloc (Obj.cells (chv zCh) 26) = a3 at *
        try simp only [Act.put, List.setIfInBounds_toArray, List.set_cons_zero, List.set_cons_succ]
        refine wpAnyH_ready (rs := [4]) (by kernel_rfl) (by simp) ?_
        refine AllReadyH.cons (o := { dst := none, op := Op.store 26 (Operand.tmp 7) (Operand.tmp 36), type := _, pos := _, after := _, guard := _ }) rfl (fun KK hKK => ?_) AllReadyH.nil
        have hKS := Lib.hid hKK
        clear hKK
        refine wst26 (d := c) (c := zCh) hc.k rfl rfl rfl p ?_
        refine hKS.out.out _ (a3.setRow Y0.heap.size (chv c)) ⟨hHeld.1.rowOther _ (by omega), below_row hHeld.2 (show w.heap.size ≤ Y0.heap.size by omega) _⟩ (fun hHeld => ?_)
        replace p := p.row c hc.k
        replace q := q.rowOther (p := Y0.heap.size) (chv c) (by omega)
        clear hKS KK
        generalize a3.setRow Y0.heap.size (chv c) = s4 at *
        try simp only [Act.put, List.setIfInBounds_toArray, List.set_cons_zero, List.set_cons_succ]
        refine wpAnyH_ready (rs := [5]) (by kernel_rfl) (by simp) ?_
        refine AllReadyH.cons (o := { dst := none, op := Op.store 26 (Operand.tmp 8) (Operand.tmp 37), type := _, pos := _, after := _, guard := _ }) rfl (fun KK hKK => ?_) AllReadyH.nil
        have hKS := Lib.hid hKK
        clear hKK
        refine wst26 (d := c) (c := zCh) hc.k rfl rfl rfl q ?_
        refine hKS.out.out _ (s4.setRow a2.heap.size (chv c)) ⟨hHeld.1.rowOther _ (by omega), below_row hHeld.2 (show w.heap.size ≤ a2.heap.size by omega) _⟩ (fun hHeld => ?_)
        replace q := q.row c hc.k
        replace p := p.rowOther (p := a2.heap.size) (chv c) (by omega)
        clear hKS KK
        generalize s4.setRow a2.heap.size (chv c) = s5 at *
        try simp only [Act.put, List.setIfInBounds_toArray, List.set_cons_zero, List.set_cons_succ]
        refine wpAnyH_done (by kernel_rfl) ?_ _
        go_wp2_with fail
        go_meet
        case rel => exact ⟨_, _, rfl, rfl, by omega, by omega, by omega, p, q, hHeld.2⟩
      refine AllReadyH.cons (o := { dst := some 8, op := Op.alloc 26, type := _, pos := _, after := _, guard := _ }) rfl (fun KK hKK => ?_) AllReadyH.nil
      · have hKS := Lib.hid hKK
        clear hKK
        go_simp
        have gx := grow Y0 (Obj.cells (chv zCh) 26)
        have ge_q : w.heap.size + 1 ≤ Y0.heap.size := hHeld.1.lt
        refine hKS.out.out _ (Y0.alloc (Obj.cells (chv zCh) 26)) ⟨hHeld.1.below gx, hHeld.2.trans (gx.mono hHeld.2.size)⟩ (fun hHeld => ?_)
        have q := Cb.new Y0 zCh zCh_ok.k
        clear hKS KK gx
        generalize Y0.alloc (Obj.cells (chv zCh) 26) = a3 at *
        try simp only [Act.put, List.setIfInBounds_toArray, List.set_cons_zero, List.set_cons_succ]
        refine wpAnyH_ready (rs := [2]) (by kernel_rfl) (by simp) ?_
        refine AllReadyH.cons (o := { dst := some 7, op := Op.alloc 26, type := _, pos := _, after := _, guard := _ }) rfl (fun KK hKK => ?_) AllReadyH.nil
        have hKS := Lib.hid hKK
        clear hKK
        go_simp
        have lt_q := q.lt
        have gx := grow a3 (Obj.cells (chv zCh) 26)
        have ge_p : w.heap.size + 1 ≤ a3.heap.size := hHeld.1.lt
        refine hKS.out.out _ (a3.alloc (Obj.cells (chv zCh) 26)) ⟨hHeld.1.below gx, hHeld.2.trans (gx.mono hHeld.2.size)⟩ (fun hHeld => ?_)
        have p := Cb.new a3 zCh zCh_ok.k
        replace q := q.below gx
        clear hKS KK gx
        generalize a3.alloc (Obj.cells (chv zCh) 26) = a2 at *
        try simp only [Act.put, List.setIfInBounds_toArray, List.set_cons_zero, List.set_cons_succ]
        refine wpAnyH_ready (rs := [4]) (by kernel_rfl) (by simp) ?_
        refine AllReadyH.cons (o := { dst := none, op := Op.store 26 (Operand.tmp 7) (Operand.tmp 36), type := _, pos := _, after := _, guard := _ }) rfl (fun KK hKK => ?_) AllReadyH.nil
        have hKS := Lib.hid hKK
        clear hKK
        refine wst26 (d := c) (c := zCh) hc.k rfl rfl rfl p ?_
        refine hKS.out.out _ (a2.setRow a3.heap.size (chv c)) ⟨hHeld.1.rowOther _ (by omega), below_row hHeld.2 (show w.heap.size ≤ a3.heap.size by omega) _⟩ (fun hHeld => ?_)
        replace p := p.row c hc.k
        replace q := q.rowOther (p := a3.heap.size) (chv c) (by omega)
        clear hKS KK
        generalize a2.setRow a3.heap.size (chv c) = s4 at *
        try simp only [Act.put, List.setIfInBounds_toArray, List.set_cons_zero, List.set_cons_succ]
        refine wpAnyH_ready (rs := [5]) (by kernel_rfl) (by simp) ?_
        refine AllReadyH.cons (o := { dst := none, op := Op.store 26 (Operand.tmp 8) (Operand.tmp 37), type := _, pos := _, after := _, guard := _ }) rfl (fun KK hKK => ?_) AllReadyH.nil
        have hKS := Lib.hid hKK
        clear hKK
        refine wst26 (d := c) (c := zCh) hc.k rfl rfl rfl q ?_
        refine hKS.out.out _ (s4.setRow Y0.heap.size (chv c)) ⟨hHeld.1.rowOther _ (by omega), below_row hHeld.2 (show w.heap.size ≤ Y0.heap.size by omega) _⟩ (fun hHeld => ?_)
        replace q := q.row c hc.k
        replace p := p.rowOther (p := Y0.heap.size) (chv c) (by omega)
        clear hKS KK
        generalize s4.setRow Y0.heap.size (chv c) = s5 at *
        try simp only [Act.put, List.setIfInBounds_toArray, List.set_cons_zero, List.set_cons_succ]
        refine wpAnyH_done (by kernel_rfl) ?_ _
        go_wp2_with fail
        go_meet
        case rel => exact ⟨_, _, rfl, rfl, by omega, by omega, by omega, p, q, hHeld.2⟩
    case rest =>
      obtain ⟨g7, g8, rfl, rfl, hg7, hg8, h78, x7, x8, b0⟩ := hcut
      clear k0
      go_wp2_with fail
      go_loopw [9, 10, 11, 12, 13, 14, 15, 16, 17, 18, 19, 20, 40] (fun _ _ _ _ _ _ _ _ _ _ _ _ s40 wr => ∃ i j : Nat, i ≤ l.length ∧ j ≤ i ∧ s40 = .int .i64 (i : Int) ∧ Cb wr g7 (ahead c i) ∧ Cb wr g8 (ahead c j) ∧ Below w.heap.size w wr) (fun _ _ _ _ _ _ _ _ _ _ _ _ s40 _ => l.length - (intOf s40).toNat)
      case atStart => exact ⟨0, 0, by omega, by omega, rfl, x7, x8, b0⟩
      case round =>
        clear x7 x8 b0
        obtain ⟨i, j, hi, hj, rfl, x7, x8, b0⟩ := hrel
        by_cases hil : i < l.length
        · have hil' : (i : Int) < (l.length : Int) := by omega
          obtain ⟨g, off, rfl, hcell⟩ := pts_cell hl hil
          have cs := cell_below hcell b0
          have e6 : IntKind.i64.wrap ((i : Int) + 1) = ((i + 1 : Nat) : Int) := by rw [IntWalk.i64_in _ (by omega)]; omega
          have i0 : (i : Int).toNat = i := rfl
          clear hcell
          generalize l[i] = s at *
          by_cases hs : 100 < s.size
          · have hs' : 100 < (s.size : Int) := by omega
            go_wp2_with fail
            refine (hfx _ b0).mono ?_
            rintro e w1 ⟨rfl, hx⟩
            replace b0 := b0.trans (hx.mono b0.size)
            go_wp2_with fail
            go_ret
            exact ⟨rfl, b0⟩
          have hs' : ¬ 100 < (s.size : Int) := by omega
          have hcI := ahead_ok hc i (by omega)
          have hcJ := ahead_ok hc j (by omega)
          have hcN := ahead_ok hc (i + 1) (by omega)
          have hkI := hcI.k
          have hkN := hcN.k
          have hkJ : (ahead c (i + 1)).K = nxt (ahead c i).K := rfl
          have hnN : (ahead c (i + 1)).n = (ahead c i).n + 1 := rfl
          have hnI : (ahead c i).n < 1152921504606847007 := by show c.n + i < _; omega
          have zmI : (ahead c i).m.size ≤ 100 := by show c.m.size ≤ _; omega
          have zmJ : (ahead c j).m.size ≤ 100 := by show c.m.size ≤ _; omega
          have zf := frame_size (ahead c i) s (by omega) (by omega)
          have hsend := fun wr (h : Below w.heap.size w wr) => send_any (ahead c i) s wr hcI (hT.below h) (by omega) (by omega)
          rw [show sendR (ahead c i) s = (ahead c (i + 1), frameD (ahead c i) s, 0) from send_ok (ahead c i) s (by omega) (by omega)] at hsend
          have hnx := fun wr (h : Below w.heap.size w wr) => next_any (ahead c i).K wr hcI.b hcI.k (hT.below h)
          have htk := fun wr (h : Below w.heap.size w wr) => stake_any (ahead c j) (frameD (ahead c i) s) wr hcJ (hT.below h) (by omega) (by omega)
          rw [show takeR (ahead c j) (frameD (ahead c i) s) = (ahead c (i + 1), s, 0) from take_ahead c j i s hj (by omega) (by omega) (by omega) (by omega)] at htk
          have zo : (okk ++ s).size = s.size + 3 := by rw [size_append]; show 3 + s.size = _; omega
          have hrep := fun wr (h : Below w.heap.size w wr) => reply_any (ahead c i).K (ahead c i).n (okk ++ s) wr hcI.b hcI.k hcI.n (hT.below h) (by omega)
          have zr := reply_size (ahead c i).K (ahead c i).n (okk ++ s)
          have hans := fun wr (h : Below w.heap.size w wr) => answer_any (ahead c i).K (ahead c i).n (replyD (ahead c i).K (ahead c i).n (okk ++ s)) wr hcI.b hcI.k hcI.n (hT.below h) (by omega)
          rw [ans_reply] at hans
          have hes := str_yes (rfl : s = s)
          have heo := str_yes (rfl : okk ++ s = okk ++ s)
          have hns : ¬ 9223372036854775807 < 3 + s.size := by omega
          generalize hCI : ahead c i = CI at *
          generalize hCJ : ahead c j = CJ at *
          generalize hCN : ahead c (i + 1) = CN at *
          have HC := Lib.hid (And.intro hCI (And.intro hCJ hCN))
          clear hCI hCJ hCN
          have eN : IntKind.u64.wrap ((CI.n : Int) + 1) = ((CI.n + 1 : Nat) : Int) := by rw [IntWalk.u64_in _ (by omega)]; omega
          generalize frameD CI s = F at *
          generalize replyD CI.K CI.n (okk ++ s) = R at *
          go_upto_region 9 with fail
          clear cs
          go_cut [11, 12] from 49 to 52 (fun s11 s12 wc => ∃ gk, s11 = .pointer (some ⟨gk, 0, none⟩) ∧ s12 = .int .u64 (CI.n : Int) ∧ gk ≠ g7 ∧ gk ≠ g8 ∧ Own wc gk 24 (vs .u8 CI.K) ∧ Cb wc g7 CI ∧ Cb wc g8 CJ ∧ Below w.heap.size w wc)
          case first =>
            refine wp_region_held_drew (S := fun V => Cb V g7 CI ∧ Cb V g8 CJ ∧ Below w.heap.size w V) (by kernel_rfl) ⟨x7.drew, x8.drew, b0.drew⟩ (fun hHeld => ?_)
            clear x7 x8 b0
            generalize wr.drew = Y9 at *
            refine wpAnyH_take (i := 0) (oi := { dst := some 49, op := Op.fieldAddr 26 (Operand.tmp 7) 2, type := _, pos := _, after := _, guard := _ }) (v := ?_) rfl (by kernel_rfl) (by kernel_rfl) (by kernel_rfl) (fun _ _ _ h => h) (Or.inl ⟨by rfl, ?_⟩) hHeld ?_
            rotate_left
            · intro wq hSw
              go_simp
              rfl
            try simp only [Act.put, List.setIfInBounds_toArray, List.set_cons_zero, List.set_cons_succ]
            refine wpAnyH_take (i := 1) (oi := { dst := some 50, op := Op.load 24 (Operand.tmp 49), type := _, pos := _, after := _, guard := _ }) rfl (by kernel_rfl) (by kernel_rfl) (by kernel_rfl) (fun _ _ _ h => h) (ylk (by rfl) _ rfl _ rfl (fun w1 h => h.1) hkI) hHeld ?_
            try simp only [Act.put, List.setIfInBounds_toArray, List.set_cons_zero, List.set_cons_succ]
            refine wpAnyH_take (i := 2) (oi := { dst := some 51, op := Op.fieldAddr 26 (Operand.tmp 7) 1, type := _, pos := _, after := _, guard := _ }) (v := ?_) rfl (by kernel_rfl) (by kernel_rfl) (by kernel_rfl) (fun _ _ _ h => h) (Or.inl ⟨by rfl, ?_⟩) hHeld ?_
            rotate_left
            · intro wq hSw
              go_simp
              rfl
            try simp only [Act.put, List.setIfInBounds_toArray, List.set_cons_zero, List.set_cons_succ]
            refine wpAnyH_take (i := 3) (oi := { dst := some 52, op := Op.load 22 (Operand.tmp 51), type := _, pos := _, after := _, guard := _ }) (v := ?_) rfl (by kernel_rfl) (by kernel_rfl) (by kernel_rfl) (fun _ _ _ h => h) (Or.inl ⟨by rfl, ?_⟩) hHeld ?_
            rotate_left
            · intro wq hSw
              have c1 := hSw.1.c1
              go_simp
              rfl
            try simp only [Act.put, List.setIfInBounds_toArray, List.set_cons_zero, List.set_cons_succ]
            refine wpAnyH_ready (rs := [4]) (by kernel_rfl) (by simp) ?_
            refine AllReadyH.cons (o := { dst := some 11, op := Op.alloc 24, type := _, pos := _, after := _, guard := _ }) rfl (fun KK hKK => ?_) AllReadyH.nil
            have hKS := Lib.hid hKK
            clear hKK
            go_simp
            have gx := grow Y9 (Obj.cells (vs .u8 (List.replicate 32 0)) 24)
            have lt_7 := hHeld.1.lt
            have lt_8 := hHeld.2.1.lt
            have ge_k : w.heap.size ≤ Y9.heap.size := hHeld.2.2.size
            refine hKS.out.out _ (Y9.alloc (Obj.cells (vs .u8 (List.replicate 32 0)) 24)) ⟨hHeld.1.below gx, hHeld.2.1.below gx, hHeld.2.2.trans (gx.mono hHeld.2.2.size)⟩ (fun hHeld => ?_)
            have p : Own (Y9.alloc (Obj.cells (vs .u8 (List.replicate 32 0)) 24)) Y9.heap.size 24 (vs .u8 (List.replicate 32 0)) := Own.new _ _ _
            clear hKS KK gx
            generalize Y9.alloc (Obj.cells (vs .u8 (List.replicate 32 0)) 24) = A4 at *
            try simp only [Act.put, List.setIfInBounds_toArray, List.set_cons_zero, List.set_cons_succ]
            refine wpAnyH_ready (rs := [5]) (by kernel_rfl) (by simp) ?_
            refine AllReadyH.cons (o := { dst := none, op := Op.store 24 (Operand.tmp 11) (Operand.tmp 50), type := _, pos := _, after := _, guard := _ }) rfl (fun KK hKK => ?_) AllReadyH.nil
            have hKS := Lib.hid hKK
            clear hKK
            refine wst24 hkI hzl rfl rfl rfl p ?_
            refine hKS.out.out _ (A4.setRow Y9.heap.size (vs .u8 CI.K)) ⟨hHeld.1.rowOther _ (by omega), hHeld.2.1.rowOther _ (by omega), below_row hHeld.2.2 (show w.heap.size ≤ Y9.heap.size by omega) _⟩ (fun hHeld => ?_)
            replace p := p.row (vs .u8 CI.K)
            clear hKS KK
            generalize A4.setRow Y9.heap.size (vs .u8 CI.K) = S5 at *
            try simp only [Act.put, List.setIfInBounds_toArray, List.set_cons_zero, List.set_cons_succ]
            refine wpAnyH_take (i := 6) (oi := { dst := some 12, op := Op.assign (Operand.tmp 52), type := _, pos := _, after := _, guard := _ }) (v := ?_) rfl (by kernel_rfl) (by kernel_rfl) (by kernel_rfl) (fun _ _ _ h => h) (Or.inl ⟨by rfl, ?_⟩) hHeld ?_
            rotate_left
            · intro wq hSw
              go_simp
              rfl
            try simp only [Act.put, List.setIfInBounds_toArray, List.set_cons_zero, List.set_cons_succ]
            refine wpAnyH_done (by kernel_rfl) ?_ _
            go_wp2_with fail
            go_meet
            case rel => exact ⟨_, rfl, rfl, by omega, by omega, p, hHeld.1, hHeld.2.1, hHeld.2.2⟩
          case rest =>
            clear x7 x8 b0
            obtain ⟨gk, rfl, rfl, hk7, hk8, p, x7, x8, b0⟩ := hcut
            go_wp2_with (first | refine ld26 rfl rfl rfl x7 ?_)
            refine (hsend _ b0).mono ?_
            rintro e w1 ⟨rfl, hx⟩
            replace p := Below.own hx p p.lt
            replace x7 := x7.below hx
            replace x8 := x8.below hx
            replace b0 := b0.trans (hx.mono b0.size)
            clear hx hsend
            dsimp only [rsv]
            have n1 := Cb.new w1 CN hkN
            have hx := grow w1 (Obj.cells (chv CN) 26)
            have l7 := x7.lt
            have l8 := x8.lt
            have lk := p.lt
            have lb := b0.size
            replace p := Below.own hx p p.lt
            replace x7 := x7.below hx
            replace x8 := x8.below hx
            replace b0 := b0.trans (hx.mono b0.size)
            clear hx
            go_upto_region 11 with (first | refine sto26n (d := CN) hkN rfl rfl rfl rfl rfl ?_)
            generalize w1.alloc (Obj.cells (chv CN) 26) = W1 at *
            generalize w1.heap.size = g13 at *
            go_cut [75] from 60 to 74 (fun s75 wc => s75 = .bool false ∧ (Cb wc g7 CI ∧ Cb wc g8 CJ ∧ Own wc gk 24 (vs .u8 CI.K) ∧ Cb wc g13 CN ∧ Below w.heap.size w wc))
            case first =>
              refine wp_region_held_drew (S := fun V => Cb V g7 CI ∧ Cb V g8 CJ ∧ Own V gk 24 (vs .u8 CI.K) ∧ Cb V g13 CN ∧ Below w.heap.size w V) (by kernel_rfl) ⟨x7.drew, x8.drew, p.drew, n1.drew, b0.drew⟩ (fun hHeld => ?_)
              clear x7 x8 p n1 b0
              generalize W1.drew = Y1 at *
              refine wpAnyH_take (i := 0) (oi := { dst := some 60, op := Op.move (Operand.tmp 15), type := _, pos := _, after := _, guard := _ }) (v := ?_) rfl (by kernel_rfl) (by kernel_rfl) (by kernel_rfl) (fun _ _ _ h => h) (Or.inl ⟨by rfl, ?_⟩) hHeld ?_
              rotate_left
              · intro wq hSw
                go_simp
                rfl
              try simp only [Act.put, List.setIfInBounds_toArray, List.set_cons_zero, List.set_cons_succ]
              refine wpAnyH_take (i := 1) (oi := { dst := some 61, op := Op.binOp BinOp.neq 28 (Operand.tmp 60) (Operand.const (Value.int IntKind.i64 0)) 28, type := _, pos := _, after := _, guard := _ }) (v := ?_) rfl (by kernel_rfl) (by kernel_rfl) (by kernel_rfl) (fun _ _ _ h => h) (Or.inl ⟨by rfl, ?_⟩) hHeld ?_
              rotate_left
              · intro wq hSw
                go_simp
                rfl
              try simp only [Act.put, List.setIfInBounds_toArray, List.set_cons_zero, List.set_cons_succ]
              refine wpAnyH_take (i := 2) (oi := { dst := some 62, op := Op.move (Operand.tmp 61), type := _, pos := _, after := _, guard := _ }) (v := ?_) rfl (by kernel_rfl) (by kernel_rfl) (by kernel_rfl) (fun _ _ _ h => h) (Or.inl ⟨by rfl, ?_⟩) hHeld ?_
              rotate_left
              · intro wq hSw
                go_simp
                rfl
              try simp only [Act.put, List.setIfInBounds_toArray, List.set_cons_zero, List.set_cons_succ]
              refine wpAnyH_take (i := 3) (oi := { dst := some 63, op := Op.fieldAddr 26 (Operand.tmp 13) 1, type := _, pos := _, after := _, guard := _ }) (v := ?_) rfl (by kernel_rfl) (by kernel_rfl) (by kernel_rfl) (fun _ _ _ h => h) (Or.inl ⟨by rfl, ?_⟩) hHeld ?_
              rotate_left
              · intro wq hSw
                go_simp
                rfl
              try simp only [Act.put, List.setIfInBounds_toArray, List.set_cons_zero, List.set_cons_succ]
              refine wpAnyH_take (i := 4) (oi := { dst := some 64, op := Op.load 22 (Operand.tmp 63), type := _, pos := _, after := _, guard := _ }) (v := ?_) rfl (by kernel_rfl) (by kernel_rfl) (by kernel_rfl) (fun _ _ _ h => h) (Or.inl ⟨by rfl, ?_⟩) hHeld ?_
              rotate_left
              · intro wq hSw
                have c1 := hSw.2.2.2.1.c1
                go_simp
                rfl
              try simp only [Act.put, List.setIfInBounds_toArray, List.set_cons_zero, List.set_cons_succ]
              refine wpAnyH_take (i := 5) (oi := { dst := some 65, op := Op.move (Operand.tmp 12), type := _, pos := _, after := _, guard := _ }) (v := ?_) rfl (by kernel_rfl) (by kernel_rfl) (by kernel_rfl) (fun _ _ _ h => h) (Or.inl ⟨by rfl, ?_⟩) hHeld ?_
              rotate_left
              · intro wq hSw
                go_simp
                rfl
              try simp only [Act.put, List.setIfInBounds_toArray, List.set_cons_zero, List.set_cons_succ]
              refine wpAnyH_take (i := 6) (oi := { dst := some 66, op := Op.binOp BinOp.add 22 (Operand.tmp 65) (Operand.const (Value.int IntKind.u64 1)) 22, type := _, pos := _, after := _, guard := _ }) (v := ?_) rfl (by kernel_rfl) (by kernel_rfl) (by kernel_rfl) (fun _ _ _ h => h) (Or.inl ⟨by rfl, ?_⟩) hHeld ?_
              rotate_left
              · intro wq hSw
                go_simp
                rfl
              try simp only [Act.put, List.setIfInBounds_toArray, List.set_cons_zero, List.set_cons_succ]
              refine wpAnyH_take (i := 7) (oi := { dst := some 67, op := Op.binOp BinOp.neq 22 (Operand.tmp 64) (Operand.tmp 66) 22, type := _, pos := _, after := _, guard := _ }) (v := ?_) rfl (by kernel_rfl) (by kernel_rfl) (by kernel_rfl) (fun _ _ _ h => h) (Or.inl ⟨by rfl, ?_⟩) hHeld ?_
              rotate_left
              · intro wq hSw
                go_simp
                rfl
              try simp only [Act.put, List.setIfInBounds_toArray, List.set_cons_zero, List.set_cons_succ]
              refine wpAnyH_take (i := 8) (oi := { dst := some 68, op := Op.pick (Operand.tmp 62) (Operand.const (Value.bool true)) (Operand.tmp 67), type := _, pos := _, after := _, guard := _ }) (v := ?_) rfl (by kernel_rfl) (by kernel_rfl) (by kernel_rfl) (fun _ _ _ h => h) (Or.inl ⟨by rfl, ?_⟩) hHeld ?_
              rotate_left
              · intro wq hSw
                go_simp
                rfl
              try simp only [Act.put, List.setIfInBounds_toArray, List.set_cons_zero, List.set_cons_succ]
              refine wpAnyH_take (i := 9) (oi := { dst := some 69, op := Op.move (Operand.tmp 68), type := _, pos := _, after := _, guard := _ }) (v := ?_) rfl (by kernel_rfl) (by kernel_rfl) (by kernel_rfl) (fun _ _ _ h => h) (Or.inl ⟨by rfl, ?_⟩) hHeld ?_
              rotate_left
              · intro wq hSw
                go_simp
                rfl
              try simp only [Act.put, List.setIfInBounds_toArray, List.set_cons_zero, List.set_cons_succ]
              refine wpAnyH_take (i := 10) (oi := { dst := some 70, op := Op.fieldAddr 26 (Operand.tmp 13) 2, type := _, pos := _, after := _, guard := _ }) (v := ?_) rfl (by kernel_rfl) (by kernel_rfl) (by kernel_rfl) (fun _ _ _ h => h) (Or.inl ⟨by rfl, ?_⟩) hHeld ?_
              rotate_left
              · intro wq hSw
                go_simp
                rfl
              try simp only [Act.put, List.setIfInBounds_toArray, List.set_cons_zero, List.set_cons_succ]
              refine wpAnyH_take (i := 11) (oi := { dst := some 71, op := Op.load 24 (Operand.tmp 70), type := _, pos := _, after := _, guard := _ }) rfl (by kernel_rfl) (by kernel_rfl) (by kernel_rfl) (fun _ _ _ h => h) (ylk2 hkN hkJ (by rfl) _ rfl _ rfl (fun w1 h => h.2.2.2.1)) hHeld ?_
              try simp only [Act.put, List.setIfInBounds_toArray, List.set_cons_zero, List.set_cons_succ]
              refine wpAnyH_take (i := 12) (oi := { dst := some 72, op := Op.load 24 (Operand.tmp 11), type := _, pos := _, after := _, guard := _ }) rfl (by kernel_rfl) (by kernel_rfl) (by kernel_rfl) (fun _ _ _ h => h) (yl t28 (by rfl) _ rfl _ rfl (fun w1 h => h.2.2.1) hkI) hHeld ?_
              try simp only [Act.put, List.setIfInBounds_toArray, List.set_cons_zero, List.set_cons_succ]
              refine wpAnyH_ready (rs := [13]) (by kernel_rfl) (by simp) ?_
              refine AllReadyH.cons (o := { dst := some 73, op := Op.call { callee := Callee.value (Operand.func 14), args := #[Operand.tmp 72], argTypes := #[24] }, type := _, pos := _, after := _, guard := _ }) rfl (fun KK hKK => ?_) AllReadyH.nil
              have hKS := Lib.hid hKK
              clear hKK
              go_simp
              refine (hnx _ hHeld.2.2.2.2).mono ?_
              rintro e w13 ⟨rfl, hx⟩
              go_wp2_with fail
              refine hKS.out.out _ _ (⟨hHeld.1.below hx, hHeld.2.1.below hx, Below.own hx hHeld.2.2.1 hHeld.2.2.1.lt, hHeld.2.2.2.1.below hx, hHeld.2.2.2.2.trans (hx.mono hHeld.2.2.2.2.size)⟩) (fun hHeld => ?_)
              clear hKS KK hx
              try simp only [Act.put, List.setIfInBounds_toArray, List.set_cons_zero, List.set_cons_succ]
              refine wpAnyH_take (i := 14) (oi := { dst := some 74, op := Op.binOp BinOp.neq 24 (Operand.tmp 71) (Operand.tmp 73) 24, type := _, pos := _, after := _, guard := _ }) rfl (by kernel_rfl) (by kernel_rfl) (by kernel_rfl) (fun _ _ _ h => h) ((Or.inl ⟨by kernel_rfl, fun wq hSw => exec_ne24 (nxt CI.K) (keyed_len _ _) wq _ _ _ rfl rfl _ rfl⟩)) hHeld ?_
              try simp only [Act.put, List.setIfInBounds_toArray, List.set_cons_zero, List.set_cons_succ]
              refine wpAnyH_take (i := 15) (oi := { dst := some 75, op := Op.pick (Operand.tmp 69) (Operand.const (Value.bool true)) (Operand.tmp 74), type := _, pos := _, after := _, guard := _ }) (v := ?_) rfl (by kernel_rfl) (by kernel_rfl) (by kernel_rfl) (fun _ _ _ h => h) (Or.inl ⟨by rfl, ?_⟩) hHeld ?_
              rotate_left
              · intro wq hSw
                go_simp
                rfl
              try simp only [Act.put, List.setIfInBounds_toArray, List.set_cons_zero, List.set_cons_succ]
              refine wpAnyH_done (by kernel_rfl) ?_ _
              go_wp2_with fail
              go_meet
              case rel => exact ⟨rfl, hHeld⟩
            case rest =>
              clear x7 x8 p n1 b0
              obtain ⟨rfl, x7, x8, p, n1, b0⟩ := hcut
              clear hnx
              go_upto_region 14 with (first | refine ld26 rfl rfl rfl n1 ?_ | refine sto26 (d := CN) hkN rfl rfl rfl rfl x7 ?_)
              replace x7 := x7.row CN hkN
              replace x8 := x8.rowOther (p := g7) (chv CN) (fun e => h78 e.symm)
              replace p := p.rowOther g7 (chv CN) hk7
              replace b0 := below_row b0 (show w.heap.size ≤ g7 by omega) (chv CN)
              generalize wc.setRow g7 (chv CN) = W2 at *
              clear n1
              cases hbit : (bits BinOp.and IntKind.u32 ((m : Int) / 2 ^ i) 1 == 1)
              · go_upto_region 16 with (first | refine ld26 rfl rfl rfl x8 ?_)
                refine (htk _ b0).mono ?_
                rintro e w3 ⟨rfl, hx⟩
                replace p := Below.own hx p p.lt
                replace x7 := x7.below hx
                replace x8 := x8.below hx
                replace b0 := b0.trans (hx.mono b0.size)
                clear hx htk
                dsimp only [rsv]
                have n1 := Cb.new w3 CN hkN
                have hx := grow w3 (Obj.cells (chv CN) 26)
                have l8 := x8.lt
                replace p := Below.own hx p p.lt
                replace x7 := x7.below hx
                replace x8 := x8.below hx
                replace b0 := b0.trans (hx.mono b0.size)
                clear hx
                go_upto_region 16 with (first | refine sto26n (d := CN) hkN rfl rfl rfl rfl rfl ?_)
                generalize w3.alloc (Obj.cells (chv CN) 26) = W4 at *
                generalize w3.heap.size = g16 at *
                go_cut [19, 20] from 90 to 100 (fun s19 s20 wc => s19 = .string (okk ++ s) ∧ s20 = .int .i64 0 ∧ (Cb wc g7 CN ∧ Cb wc g8 CJ ∧ Own wc gk 24 (vs .u8 CI.K) ∧ Cb wc g16 CN ∧ Below w.heap.size w wc))
                case first =>
                  refine wp_region_held_drew (S := fun V => Cb V g7 CN ∧ Cb V g8 CJ ∧ Own V gk 24 (vs .u8 CI.K) ∧ Cb V g16 CN ∧ Below w.heap.size w V) (by kernel_rfl) ⟨x7.drew, x8.drew, p.drew, n1.drew, b0.drew⟩ (fun hHeld => ?_)
                  clear x7 x8 p n1 b0
                  generalize W4.drew = Y2 at *
                  refine wpAnyH_take (i := 0) (oi := { dst := some 91, op := Op.load 24 (Operand.tmp 11), type := _, pos := _, after := _, guard := _ }) rfl (by kernel_rfl) (by kernel_rfl) (by kernel_rfl) (fun _ _ _ h => h) (yl t28 (by rfl) _ rfl _ rfl (fun w1 h => h.2.2.1) hkI) hHeld ?_
                  try simp only [Act.put, List.setIfInBounds_toArray, List.set_cons_zero, List.set_cons_succ]
                  refine wpAnyH_take (i := 1) (oi := { dst := some 92, op := Op.move (Operand.tmp 12), type := _, pos := _, after := _, guard := _ }) (v := ?_) rfl (by kernel_rfl) (by kernel_rfl) (by kernel_rfl) (fun _ _ _ h => h) (Or.inl ⟨by rfl, ?_⟩) hHeld ?_
                  rotate_left
                  · intro wq hSw
                    go_simp
                    rfl
                  try simp only [Act.put, List.setIfInBounds_toArray, List.set_cons_zero, List.set_cons_succ]
                  refine wpAnyH_take (i := 2) (oi := { dst := some 93, op := Op.load 24 (Operand.tmp 11), type := _, pos := _, after := _, guard := _ }) rfl (by kernel_rfl) (by kernel_rfl) (by kernel_rfl) (fun _ _ _ h => h) (yl t28 (by rfl) _ rfl _ rfl (fun w1 h => h.2.2.1) hkI) hHeld ?_
                  try simp only [Act.put, List.setIfInBounds_toArray, List.set_cons_zero, List.set_cons_succ]
                  refine wpAnyH_take (i := 3) (oi := { dst := some 94, op := Op.move (Operand.tmp 12), type := _, pos := _, after := _, guard := _ }) (v := ?_) rfl (by kernel_rfl) (by kernel_rfl) (by kernel_rfl) (fun _ _ _ h => h) (Or.inl ⟨by rfl, ?_⟩) hHeld ?_
                  rotate_left
                  · intro wq hSw
                    go_simp
                    rfl
                  try simp only [Act.put, List.setIfInBounds_toArray, List.set_cons_zero, List.set_cons_succ]
                  refine wpAnyH_take (i := 4) (oi := { dst := some 95, op := Op.move (Operand.tmp 10), type := _, pos := _, after := _, guard := _ }) (v := ?_) rfl (by kernel_rfl) (by kernel_rfl) (by kernel_rfl) (fun _ _ _ h => h) (Or.inl ⟨by rfl, ?_⟩) hHeld ?_
                  rotate_left
                  · intro wq hSw
                    go_simp
                    rfl
                  try simp only [Act.put, List.setIfInBounds_toArray, List.set_cons_zero, List.set_cons_succ]
                  refine wpAnyH_take (i := 5) (oi := { dst := some 96, op := Op.binOp BinOp.add 9 (Operand.const (Value.string { data := #[111, 107, 32] })) (Operand.tmp 95) 9, type := _, pos := _, after := _, guard := _ }) (v := ?_) rfl (by kernel_rfl) (by kernel_rfl) (by kernel_rfl) (fun _ _ _ h => h) (Or.inl ⟨by rfl, ?_⟩) hHeld ?_
                  rotate_left
                  · intro wq hSw
                    go_simp
                    rfl
                  try simp only [Act.put, List.setIfInBounds_toArray, List.set_cons_zero, List.set_cons_succ]
                  refine wpAnyH_ready (rs := [6]) (by kernel_rfl) (by simp) ?_
                  refine AllReadyH.cons (o := { dst := some 97, op := Op.call { callee := Callee.value (Operand.func 16), args := #[Operand.tmp 93, Operand.tmp 94, Operand.tmp 96], argTypes := #[24, 22, 9] }, type := _, pos := _, after := _, guard := _ }) rfl (fun KK hKK => ?_) AllReadyH.nil
                  have hKS := Lib.hid hKK
                  clear hKK
                  go_simp
                  refine (hrep _ hHeld.2.2.2.2).mono ?_
                  rintro e w6 ⟨rfl, hx⟩
                  go_wp2_with fail
                  refine hKS.out.out _ _ (⟨hHeld.1.below hx, hHeld.2.1.below hx, Below.own hx hHeld.2.2.1 hHeld.2.2.1.lt, hHeld.2.2.2.1.below hx, hHeld.2.2.2.2.trans (hx.mono hHeld.2.2.2.2.size)⟩) (fun hHeld => ?_)
                  clear hKS KK hx
                  try simp only [Act.put, List.setIfInBounds_toArray, List.set_cons_zero, List.set_cons_succ]
                  refine wpAnyH_ready (rs := [7]) (by kernel_rfl) (by simp) ?_
                  refine AllReadyH.cons (o := { dst := some 98, op := Op.call { callee := Callee.value (Operand.func 20), args := #[Operand.tmp 91, Operand.tmp 92, Operand.tmp 97], argTypes := #[24, 22, 9] }, type := _, pos := _, after := _, guard := _ }) rfl (fun KK hKK => ?_) AllReadyH.nil
                  have hKS := Lib.hid hKK
                  clear hKK
                  go_simp
                  refine (hans _ hHeld.2.2.2.2).mono ?_
                  rintro e w7 ⟨rfl, hx⟩
                  go_wp2_with fail
                  refine hKS.out.out _ _ (⟨hHeld.1.below hx, hHeld.2.1.below hx, Below.own hx hHeld.2.2.1 hHeld.2.2.1.lt, hHeld.2.2.2.1.below hx, hHeld.2.2.2.2.trans (hx.mono hHeld.2.2.2.2.size)⟩) (fun hHeld => ?_)
                  clear hKS KK hx
                  try simp only [Act.put, List.setIfInBounds_toArray, List.set_cons_zero, List.set_cons_succ]
                  refine wpAnyH_take (i := 8) (oi := { dst := some 90, op := Op.move (Operand.tmp 98), type := _, pos := _, after := _, guard := _ }) (v := ?_) rfl (by kernel_rfl) (by kernel_rfl) (by kernel_rfl) (fun _ _ _ h => h) (Or.inl ⟨by rfl, ?_⟩) hHeld ?_
                  rotate_left
                  · intro wq hSw
                    go_simp
                    rfl
                  try simp only [Act.put, List.setIfInBounds_toArray, List.set_cons_zero, List.set_cons_succ]
                  refine wpAnyH_take (i := 9) (oi := { dst := some 99, op := Op.extract (Operand.tmp 90) 0, type := _, pos := _, after := _, guard := _ }) (v := ?_) rfl (by kernel_rfl) (by kernel_rfl) (by kernel_rfl) (fun _ _ _ h => h) (Or.inl ⟨by rfl, ?_⟩) hHeld ?_
                  rotate_left
                  · intro wq hSw
                    go_simp
                    rfl
                  try simp only [Act.put, List.setIfInBounds_toArray, List.set_cons_zero, List.set_cons_succ]
                  refine wpAnyH_take (i := 10) (oi := { dst := some 100, op := Op.extract (Operand.tmp 90) 1, type := _, pos := _, after := _, guard := _ }) (v := ?_) rfl (by kernel_rfl) (by kernel_rfl) (by kernel_rfl) (fun _ _ _ h => h) (Or.inl ⟨by rfl, ?_⟩) hHeld ?_
                  rotate_left
                  · intro wq hSw
                    go_simp
                    rfl
                  try simp only [Act.put, List.setIfInBounds_toArray, List.set_cons_zero, List.set_cons_succ]
                  refine wpAnyH_take (i := 11) (oi := { dst := some 19, op := Op.assign (Operand.tmp 99), type := _, pos := _, after := _, guard := _ }) (v := ?_) rfl (by kernel_rfl) (by kernel_rfl) (by kernel_rfl) (fun _ _ _ h => h) (Or.inl ⟨by rfl, ?_⟩) hHeld ?_
                  rotate_left
                  · intro wq hSw
                    go_simp
                    rfl
                  try simp only [Act.put, List.setIfInBounds_toArray, List.set_cons_zero, List.set_cons_succ]
                  refine wpAnyH_take (i := 12) (oi := { dst := some 20, op := Op.assign (Operand.tmp 100), type := _, pos := _, after := _, guard := _ }) (v := ?_) rfl (by kernel_rfl) (by kernel_rfl) (by kernel_rfl) (fun _ _ _ h => h) (Or.inl ⟨by rfl, ?_⟩) hHeld ?_
                  rotate_left
                  · intro wq hSw
                    go_simp
                    rfl
                  try simp only [Act.put, List.setIfInBounds_toArray, List.set_cons_zero, List.set_cons_succ]
                  refine wpAnyH_done (by kernel_rfl) ?_ _
                  go_wp2_with fail
                  go_meet
                  case rel => exact ⟨rfl, rfl, hHeld⟩
                case rest =>
                  clear x7 x8 p n1 b0
                  obtain ⟨rfl, rfl, x7, x8, p, n1, b0⟩ := hcut
                  clear hrep hans
                  have heo2 : ((okk ++ s).toList == ((⟨#[111, 107, 32]⟩ : ByteArray) ++ s).toList) = true := str_yes rfl
                  go_wp2_with (first | refine ld26w (by kernel_rfl) rfl rfl n1 ?_ | refine ld26w (by kernel_rfl) rfl rfl x7 ?_ | refine ne26w hkN (by kernel_rfl) rfl rfl rfl ?_ | refine ld26 rfl rfl rfl n1 ?_ | refine sto26 (d := CN) hkN rfl rfl rfl rfl x8 ?_)
                  exact ⟨⟨i + 1, i + 1, by omega, by omega, by first | rfl | go_num, by rw [HC.out.2.2]; exact x7.rowOther (p := g8) _ h78, by rw [HC.out.2.2]; exact x8.row CN hkN, below_row b0 (by omega) _⟩, by simp [intOf]; omega⟩
              · go_wp2_with fail
                exact ⟨⟨i + 1, j, by omega, by omega, by first | rfl | go_num, by rw [HC.out.2.2]; exact x7, by rw [HC.out.2.1]; exact x8, b0⟩, by simp [intOf]; omega⟩
        · obtain rfl : i = l.length := by omega
          have hil' : ¬ (l.length : Int) < (l.length : Int) := by omega
          go_wp2_with fail
          refine (hfx _ b0).mono ?_
          rintro e w1 ⟨rfl, hx⟩
          replace b0 := b0.trans (hx.mono b0.size)
          go_wp2_with fail
          go_ret
          exact ⟨rfl, b0⟩

set_option maxRecDepth 100000 in
theorem lifted (os : Os) (started : os.Started) (H : Type) (enc : TypeId × Value → H) :
    ReturnsInHanded {} Tryd.checked os 5 .any (fun w args => (Rows.sessionGoesSpec.pre enc Tryd.prog Tryd.f5 [] false w args ∧ laidMetH Tryd.prog lay2 w) ∧ sizedMet enc Tryd.prog Tryd.f5 (OpenSpec.ofChange Rows.sessionGoesSpec) false w args)
      (Rows.sessionGoesSpec.post enc Tryd.prog Tryd.f5 false true false false) := by
  refine returnsInHanded_of_change_and (C := Tryd.checked) (X := fun w _ => laidMetH Tryd.prog lay2 w) (fun _ _ _ hh h => h.of_heap hh) own started (by kernel_rfl) Tryd.func5
    (ChangeSpec.witness_shaped (enc := enc) (C := Tryd.checked) (os := os) (X := fun w _ => laidMetH Tryd.prog lay2 w) false (World.doorLaid Tryd.prog 400 os) #[.agg (#[.string ByteArray.empty, .int .u64 0] ++ Array.replicate 32 (.int .u8 0)), .slice none 0 0, .int .u32 0] 8 rfl (World.shaped_of_RefB (by kernel_rfl) (by kernel_rfl)) (by kernel_rfl) (by kernel_rfl) (by kernel_rfl) (door_met os _)) ?_
  intro W base args ds gs before hval0 hW _ _ hL _
  have hval : ∀ (j : Nat) t v, Tryd.f5.params[j]? = some t → args[j]? = some v → Value.okWide Tryd.prog W .any base t v := hval0
  have hW' := hW
  obtain ⟨p, q, hA0, hV, rfl, hfz, hnd⟩ := hW
  have hA : DataW.TrodAll enc Tryd.prog W 0 (fun _ => true) true Tryd.f5.params.toList args.toList ds p := hA0
  rw [Tryd.params5] at hA hval
  obtain ⟨v0, vs0, d0, ds0, p0, q0, hargs, rfl, rfl, h0, r0⟩ := trodAll_cons hA
  obtain ⟨v1, vs1, d1, ds1, p1, q1, rfl, rfl, rfl, h1, r1⟩ := trodAll_cons r0
  obtain ⟨v2, vs2, d2, ds2, p2, q2, rfl, rfl, rfl, h2, r2⟩ := trodAll_cons r1
  obtain ⟨rfl, rfl, rfl⟩ := trodAll_nil r2
  obtain rfl : args = #[v0, v1, v2] := by cases args; simp_all
  obtain ⟨rfl, rfl⟩ := trodVars_none hV
  obtain ⟨K0, rfl, b0⟩ := okChan (hval 0 26 v0 rfl rfl)
  have k0 := h0
  have lt0 : ∀ x ∈ p0, x.block < W.heap.size := by obtain ⟨m, hm⟩ := k0; exact DataW.trod_lt m _ _ _ hm
  obtain ⟨A1, c1, l1, rfl, y1, yc1, ym1, yz1⟩ := okStrs (hval 1 36 v1 rfl rfl) h1
  have k1 := h1
  have lt1 : ∀ x ∈ p1, x.block < W.heap.size := by obtain ⟨m, hm⟩ := k1; exact DataW.trod_lt m _ _ _ hm
  obtain ⟨n2, rfl, rfl, rfl, w2⟩ := open_int Tryd.underlying37 (hval 2 37 v2 rfl rfl) h2
  obtain ⟨m2, rfl, z2⟩ := nat_u32 w2
  have hT := of_laid hL
  clear hA0 hval0
  refine (walk K0 A1 c1 l1 m2 b0 z2 W hT y1).mono fun e W' ⟨he, bel⟩ => ?_
  subst he
  exact ⟨_, rfl, _, _, _, [], _, [], hW', trodAll_mk1 (shut_bool Tryd.underlying4 _), (trodAll_cons_mk (Below.trod laidOut (by kernel_rfl) (of_decide_eq_true (by kernel_rfl)) k0 bel lt0) (trodAll_cons_mk (Below.trod laidOut (by kernel_rfl) (of_decide_eq_true (by kernel_rfl)) k1 bel lt1) (trodAll_cons_mk (shut_int Tryd.underlying37 w2) trodAll_mk0))), rfl, bel.frame _, fun h => by cases h⟩

theorem bare : Rows.SessionGoesSaid :=
  OpenClaim.holds_of_wide 5 Tryd.f5 rfl rfl rfl rfl rfl rfl rfl ⟨rfl, rfl, rfl, rfl, rfl⟩ rfl rfl rfl rfl rfl (by kernel_rfl) Tryd.func5 (by kernel_rfl)
    (of_decide_eq_true (by kernel_rfl)) (by unfold Func.isWrapper; first | (rw [if_pos (by decide +kernel)]; kernel_rfl) | (rw [if_neg (by decide +kernel)]; exact ⟨rfl, rfl⟩))
    (fun os started H enc _ => lifted os started H enc)

/-- the statement -/
theorem proved : Rows.SessionGoesCardSaid :=
  Claim7.holds_tied_plain_at .later [] [.data, .data] true Rows.sessionGoesCard.stood.harness false
    bare (fun _ h => by cases h) (by kernel_rfl) (fun _ h => by cases h) sessionGoes_row_tie rfl ⟨rfl, rfl⟩ (by kernel_rfl) rfl
    (fun f fn hf hfn => by
      obtain rfl : f = 5 := Option.some.inj ((show Tryd.prog.funcNamed "hibernacle/hibernaclelaw43.SessionGoes" = some 5 by kernel_rfl).symm.trans hf) |>.symm
      obtain rfl : fn = Tryd.f5 := (Option.some.inj (Tryd.func5.symm.trans hfn)).symm
      exact ⟨by kernel_rfl, fun j t ht => by
        rw [Tryd.params5] at ht
        have hm : t ∈ [26, 36, 37] := by simpa using Array.mem_of_getElem? ht
        have hall : ([26, 36, 37].all fun u => !Tryd.prog.wantsStandIn u) = true := by kernel_rfl
        exact (show Tryd.prog.wantsStandIn t = false by simpa using List.all_eq_true.1 hall t hm)⟩)
    (by kernel_rfl)
end Go.Proofs.YtaoaebdjinlcnaaDoor.sessionGoes
