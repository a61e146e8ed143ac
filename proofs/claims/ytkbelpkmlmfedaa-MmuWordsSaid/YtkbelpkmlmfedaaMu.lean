/-
  THE WALKS of what memory is written by: a number by the code, a byte by the document.
-/
import Derived.Test.YtkbelpkmlmfedaaMv
namespace Go.Proofs.Ytkbelpkmlmfedaa
set_option linter.unusedVariables false
set_option maxRecDepth 100000
set_option linter.unusedSimpArgs false
open Go.RowKit
namespace Mo
open _root_.Go.Proofs.Ytkbelpkmlmfedaa.Nm _root_.Go.Proofs.Ytkbelpkmlmfedaa.Xe
theorem fs_set (l : List ByteArray) (k : Nat) (y : ByteArray) : fs (l.set k y) = (fs l).set k (toL y) := List.map_set
/-- a text of the row is set -/
theorem RS.put {w : World} {B g n cap : Nat} {l : List ByteArray} (h : RS w B (some ⟨g, 0, none⟩) n cap l) (k : Nat) (y : ByteArray) : RS (w.setCell ⟨g, k, none⟩ (.string y)) B (some ⟨g, 0, none⟩) n cap (l.set k y) := by
  obtain ⟨h1, h2, h3⟩ := h
  rcases h3 with ⟨e, _⟩ | ⟨g', c, cur, e, hB, hg, hc, hm, hs, ht⟩
  · cases e
  · cases e
    refine ⟨by simp [h1], by simpa using h2, .inr ⟨g, cap, cur.setIfInBounds k (.string y), rfl, hB, Own.set hg k _, hc, hm, by simp [hs], ?_⟩⟩
    rw [Array.toList_setIfInBounds, List.take_set, ht, List.map_set]
    rfl
theorem RS.cell {w : World} {B g n cap : Nat} {l : List ByteArray} (h : RS w B (some ⟨g, 0, none⟩) n cap l) {k : Nat} (hk : k < n) : w.cell? ⟨g, k, none⟩ = some (.string (nth l k)) := by
  obtain ⟨b, off, e, hc⟩ := h.ts.2 (by omega)
  have c := hc k hk
  have h3 := h.2.2
  rcases h3 with ⟨e', _⟩ | ⟨g', c', cur, e', hB, hg, _⟩
  · cases e'
  · cases e
    rwa [Nat.zero_add] at c
theorem RS.frozen {w : World} {B g n cap : Nat} {l : List ByteArray} (h : RS w B (some ⟨g, 0, none⟩) n cap l) (k : Nat) : w.frozen? ⟨g, k, none⟩ = false := by
  rcases h.2.2 with ⟨e', _⟩ | ⟨g', c', cur, e', hB, hg, _⟩
  · cases e'
  · cases e'
    exact Own.frozen hg k
theorem RS.lt {w : World} {B g n cap : Nat} {l : List ByteArray} (h : RS w B (some ⟨g, 0, none⟩) n cap l) : B ≤ g ∧ g < w.heap.size := by
  rcases h.form with ⟨e, _⟩ | ⟨g', e, h1, h2⟩
  · cases e
  · cases e; exact ⟨h1, h2⟩
/-- the row lies in block g, all below B is as it was -/
structure Ro (B g n c : Nat) (l : List ByteArray) (w wr : World) : Prop where
  r : RS wr B (some ⟨g, 0, none⟩) n c l
  b : Below B w wr
theorem Ro.below {B g n c : Nat} {l : List ByteArray} {w wr w1 : World} (h : Ro B g n c l w wr) (hx : Below wr.heap.size wr w1) : Ro B g n c l w w1 := ⟨h.r.below hx, h.b.trans (hx.mono (Nat.le_trans (RS.lt h.r).1 (Nat.le_of_lt (RS.lt h.r).2)))⟩
theorem Ro.dr {B g n c : Nat} {l : List ByteArray} {w wr w1 : World} (h : Ro B g n c l w wr) (hx : Dr wr w1) : Ro B g n c l w w1 := ⟨h.r.dr hx, below_dr h.b hx⟩
theorem Ro.drew {B g n c : Nat} {l : List ByteArray} {w wr : World} (h : Ro B g n c l w wr) : Ro B g n c l w wr.drew := h.dr ⟨1, rfl⟩
theorem Ro.put {B g n c : Nat} {l : List ByteArray} {w wr : World} (h : Ro B g n c l w wr) (k : Nat) (y : ByteArray) : Ro B g n c (l.set k y) w (wr.setCell ⟨g, k, none⟩ (.string y)) :=
  ⟨RS.put h.r k y, h.b.setCell (p := ⟨g, k, none⟩) (RS.lt h.r).1 _⟩
theorem store_find (F : Mm.Fr) (s : Mm.Sp) (q : Nat) (n : Int) (v : Nat) : Mm.storeM F s q n v = match Mm.find s q n true with
    | none => none
    | some (f, p) => if Mm.there F f then some (F.set f.toNat (Mm.over (Mm.fr F f.toNat) p (Nu.putB v n.toNat))) else none := by
  cases h : Mm.find s q n true with
  | none => exact if_neg fun k => find_none h ⟨k.1, k.2.2.1⟩
  | some r =>
    obtain ⟨f, p⟩ := r
    obtain ⟨h1, h2, rfl, rfl⟩ := find_some h
    show (if _ then _ else _) = if _ then _ else _
    by_cases ht : Mm.there F (Mm.pt s (q / 128)).f
    · rw [if_pos ht, if_pos ⟨h1, h1.2.1, h2, ht⟩]; rfl
    · rw [if_neg ht, if_neg (fun k => ht k.2.2.2)]
theorem set_find (F : Mm.Fr) (s : Mm.Sp) (q : Nat) (b : UInt8) : Mm.setB F s q b = match Mm.find s q 1 true with
    | none => none
    | some (f, p) => if Mm.there F f then some (F.set f.toNat ((Mm.fr F f.toNat).set p b)) else none := by
  cases h : Mm.find s q 1 true with
  | none => exact if_neg fun k => find_none h ⟨⟨.inl rfl, k.1, Nat.mod_one q⟩, k.2.1⟩
  | some r =>
    obtain ⟨f, p⟩ := r
    obtain ⟨h1, h2, rfl, rfl⟩ := find_some h
    show (if _ then _ else _) = if _ then _ else _
    by_cases ht : Mm.there F (Mm.pt s (q / 128)).f
    · rw [if_pos ht, if_pos ⟨h1.2.1, h2, ht⟩]; rfl
    · rw [if_neg ht, if_neg (fun k => ht k.2.2)]
/-- memory that is answered, or none -/
def MemIs (B : Nat) (r : Option Mm.Fr) (e : Ending) (w' : World) : Prop := ∃ A n c L, e = .returned (.tuple #[.slice A n c, .bool r.isSome]) ∧ RS w' B A n c L ∧ n ≤ 100000 ∧ fs L = r.getD []
theorem MemIs.no {B : Nat} {w' : World} : MemIs B none (.returned (.tuple #[.slice none 0 0, .bool false])) w' := ⟨none, 0, 0, [], rfl, RS.nil _ _, by decide, rfl⟩
set_option maxHeartbeats 4000000 in
theorem store_any (A : Option Addr) (len cap : Nat) (l : List ByteArray) (s : Mm.Sp) (hs : SpOk s) (q : Nat) (n : Int) (v : Nat) (w : World) (hl : Tz w A len cap l) (hq : q < 4294967296) (h0 : -9223372036854775808 ≤ n) (h1 : n ≤ 9223372036854775807) (hv : v < 4294967296) :
    Calls Try.prog 35 #[.slice A len cap, .agg (sc s), .int .u32 (q : Nat), .int .i64 n, .int .u32 (v : Nat)] w fun e w' => MemIs w.heap.size (Mm.storeM (fs l) s q n v) e w' ∧ Below w.heap.size w w' := by
  have hb := grow w (Obj.cells (sc s) 57)
  have ho := Own.new w 57 (sc s)
  have hl1 := hl.below hb
  have hf := fun wr => find_any s hs q n true wr hq h0 h1
  rw [store_find]
  unfold FindIs at hf
  have hlen : len ≤ 9223372036854775807 := Nat.le_trans hl.m (by decide)
  cases hr : Mm.find s q n true with
  | none =>
    rw [hr] at hf
    simp only [Option.map_none, Option.getD_none, Option.isSome_none] at hf ⊢
    go_enter Try.func35, Try.ntmps35
    go_wp2_with (refine ls rfl rfl rfl hs ho ?_)
    refine (hf _).mono ?_
    rintro e w1 ⟨rfl, hx1⟩
    have hb1 := hb.trans (hx1.mono hb.size)
    clear hf ho hb hl1
    go_wp2_with fail
    go_ret2
    exact ⟨MemIs.no, hb1⟩
  | some r =>
    obtain ⟨f, p⟩ := r
    obtain ⟨hok, -, -, hp⟩ := find_some hr
    have hpg := Mm.ok_page hok
    rw [← hp] at hpg
    rw [hr] at hf
    simp only [Option.map_some, Option.getD_some, Option.isSome_some] at hf ⊢
    by_cases ht : Mm.there (fs l) f
    · rw [if_pos ht]
      obtain ⟨k, b, off, rfl, hk, rfl, -, hz, hfr⟩ := there_get hl1.t ht
      rw [hfr, Int.toNat_natCast]
      have hfm := fun wr (hh : Tz wr (some ⟨b, off, none⟩) len cap l) => frame_any (some ⟨b, off, none⟩) len cap l (k : Int) wr hh.t hlen
      rw [decide_eq_true ht] at hfm
      obtain ⟨p1, p2, p3, p4⟩ := hpg
      generalize hN : n.toNat = N at *
      subst p4
      have hov := fun wr => over_any (nth l k) ⟨(Nu.putB v N).toArray⟩ p wr (by show p + (Nu.putB v N).toArray.size ≤ _; rw [List.size_toArray, Nu.putB_length]; omega) (by omega)
      rw [show toL (⟨(Nu.putB v N).toArray⟩ : ByteArray) = Nu.putB v N from by simp [toL]] at hov
      have u1 := u64_id v (by omega)
      have i5 : (k : Int) < (len : Int) := by omega
      clear hfr hok hr ht hN hz hp
      go_enter Try.func35, Try.ntmps35
      go_wp2_with (refine ls rfl rfl rfl hs ho ?_)
      refine (hf _).mono ?_
      rintro e w1 ⟨rfl, hx1⟩
      have hb1 := hb.trans (hx1.mono hb.size)
      have hl2 := hl1.below hx1
      clear hf ho hb hl1 hx1
      go_wp2_with fail
      refine (hfm _ hl2).mono ?_
      rintro e w2 ⟨rfl, rfl⟩
      go_wp2_with fail
      refine (clone_any _ _ _ _ _ hl2).mono ?_
      rintro e w2 ⟨⟨A', c', rfl, hr⟩, hx2⟩
      have hb2 := hb1.trans (hx2.mono hb1.size)
      rcases hr.form with ⟨_, h0', _⟩ | ⟨g, rfl, hg1, hg2⟩
      · omega
      have hR : Ro w.heap.size g len c' l w w2 := ⟨⟨hr.1, hr.2.1, by
        rcases hr.2.2 with h | ⟨g', c, cur, e1, e2, e3⟩
        · exact .inl h
        · exact .inr ⟨g', c, cur, e1, Nat.le_trans hb1.size e2, e3⟩⟩, hb2⟩
      clear hr hx2 hb2 hb1 hl2 hfm hg1 hg2
      go_wp2_with fail
      refine wp_region_held_drew (S := fun w' => Below w.heap.size w w') (by kernel_rfl) hR.drew.b (fun hHeld => ?_)
      replace hR := hR.drew
      generalize w2.drew = W2 at *
      refine wpAnyH_take (i := 0) (oi := { dst := some 34, op := Op.move (Operand.tmp 15), type := _, pos := _, after := _, guard := _ }) (v := ?_) rfl (by kernel_rfl) (by kernel_rfl) (by kernel_rfl) (fun _ _ _ h => h) (Or.inl ⟨by rfl, ?_⟩) hHeld ?_
      rotate_left
      · intro wq hSw
        go_simp
        rfl
      try simp only [Act.put, List.setIfInBounds_toArray, List.set_cons_zero, List.set_cons_succ]
      refine wpAnyH_take (i := 1) (oi := { dst := some 35, op := Op.move (Operand.tmp 12), type := _, pos := _, after := _, guard := _ }) (v := ?_) rfl (by kernel_rfl) (by kernel_rfl) (by kernel_rfl) (fun _ _ _ h => h) (Or.inl ⟨by rfl, ?_⟩) hHeld ?_
      rotate_left
      · intro wq hSw
        go_simp
        rfl
      try simp only [Act.put, List.setIfInBounds_toArray, List.set_cons_zero, List.set_cons_succ]
      refine wpAnyH_take (i := 2) (oi := { dst := some 36, op := Op.move (Operand.tmp 15), type := _, pos := _, after := _, guard := _ }) (v := ?_) rfl (by kernel_rfl) (by kernel_rfl) (by kernel_rfl) (fun _ _ _ h => h) (Or.inl ⟨by rfl, ?_⟩) hHeld ?_
      rotate_left
      · intro wq hSw
        go_simp
        rfl
      try simp only [Act.put, List.setIfInBounds_toArray, List.set_cons_zero, List.set_cons_succ]
      refine wpAnyH_take (i := 3) (oi := { dst := some 37, op := Op.move (Operand.tmp 12), type := _, pos := _, after := _, guard := _ }) (v := ?_) rfl (by kernel_rfl) (by kernel_rfl) (by kernel_rfl) (fun _ _ _ h => h) (Or.inl ⟨by rfl, ?_⟩) hHeld ?_
      rotate_left
      · intro wq hSw
        go_simp
        rfl
      try simp only [Act.put, List.setIfInBounds_toArray, List.set_cons_zero, List.set_cons_succ]
      refine wpAnyH_take (i := 4) (oi := { dst := some 38, op := Op.indexAddr 53 (Operand.tmp 36) (Operand.tmp 37), type := _, pos := _, after := _, guard := _ }) (v := ?_) rfl (by kernel_rfl) (by kernel_rfl) (by kernel_rfl) (fun _ _ _ h => h) (Or.inl ⟨by rfl, ?_⟩) hHeld ?_
      rotate_left
      · intro wq hSw
        go_simp
        rfl
      try simp only [Act.put, List.setIfInBounds_toArray, List.set_cons_zero, List.set_cons_succ]
      refine wpAnyH_take (i := 6) (oi := { dst := some 40, op := Op.move (Operand.tmp 13), type := _, pos := _, after := _, guard := _ }) (v := ?_) rfl (by kernel_rfl) (by kernel_rfl) (by kernel_rfl) (fun _ _ _ h => h) (Or.inl ⟨by rfl, ?_⟩) hHeld ?_
      rotate_left
      · intro wq hSw
        go_simp
        rfl
      try simp only [Act.put, List.setIfInBounds_toArray, List.set_cons_zero, List.set_cons_succ]
      refine wpAnyH_take (i := 7) (oi := { dst := some 41, op := Op.move (Operand.tmp 4), type := _, pos := _, after := _, guard := _ }) (v := ?_) rfl (by kernel_rfl) (by kernel_rfl) (by kernel_rfl) (fun _ _ _ h => h) (Or.inl ⟨by rfl, ?_⟩) hHeld ?_
      rotate_left
      · intro wq hSw
        go_simp
        rfl
      try simp only [Act.put, List.setIfInBounds_toArray, List.set_cons_zero, List.set_cons_succ]
      refine wpAnyH_take (i := 8) (oi := { dst := some 42, op := Op.convert 23 41 (Operand.tmp 41), type := _, pos := _, after := _, guard := _ }) (v := ?_) rfl (by kernel_rfl) (by kernel_rfl) (by kernel_rfl) (fun _ _ _ h => h) (Or.inl ⟨by rfl, ?_⟩) hHeld ?_
      rotate_left
      · intro wq hSw
        go_simp
        rfl
      try simp only [Act.put, List.setIfInBounds_toArray, List.set_cons_zero, List.set_cons_succ]
      refine wpAnyH_take (i := 9) (oi := { dst := some 43, op := Op.move (Operand.tmp 3), type := _, pos := _, after := _, guard := _ }) (v := ?_) rfl (by kernel_rfl) (by kernel_rfl) (by kernel_rfl) (fun _ _ _ h => h) (Or.inl ⟨by rfl, ?_⟩) hHeld ?_
      rotate_left
      · intro wq hSw
        go_simp
        rfl
      try simp only [Act.put, List.setIfInBounds_toArray, List.set_cons_zero, List.set_cons_succ]
      refine wpAnyH_ready (rs := [5, 10]) (by kernel_rfl) (by simp) ?_
      refine AllReadyH.cons (o := { dst := some 39, op := Op.load 9 (Operand.tmp 38), type := _, pos := _, after := _, guard := _ }) rfl (fun KK hKK => ?_) ?_
      · have hKS := Lib.hid hKK
        clear hKK
        have ck := RS.cell hR.r hk
        go_simp
        refine hKS.out.out _ _ hR.b (fun hHeld => ?_)
        clear hKS KK ck
        try simp only [Act.put, List.setIfInBounds_toArray, List.set_cons_zero, List.set_cons_succ]
        refine wpAnyH_ready (rs := [10]) (by kernel_rfl) (by simp) ?_
        refine AllReadyH.cons (o := { dst := some 44, op := Op.call { callee := Callee.value (Operand.func 43), args := #[Operand.tmp 42, Operand.tmp 43], argTypes := #[41, 3] }, type := _, pos := _, after := _, guard := _ }) rfl (fun KK hKK => ?_) AllReadyH.nil
        have hKS := Lib.hid hKK
        clear hKK
        go_simp
        refine (put_any v (N : Int) N _ (by omega) (by omega)).mono ?_
        rintro e w10 ⟨rfl, hx⟩
        go_wp2_with fail
        replace hR := hR.below hx
        refine hKS.out.out _ _ hR.b (fun hHeld => ?_)
        clear hKS KK hx
        try simp only [Act.put, List.setIfInBounds_toArray, List.set_cons_zero, List.set_cons_succ]
        refine wpAnyH_ready (rs := [11]) (by kernel_rfl) (by simp) ?_
        refine AllReadyH.cons (o := { dst := some 45, op := Op.call { callee := Callee.value (Operand.func 66), args := #[Operand.tmp 39, Operand.tmp 40, Operand.tmp 44], argTypes := #[9, 3, 9] }, type := _, pos := _, after := _, guard := _ }) rfl (fun KK hKK => ?_) AllReadyH.nil
        have hKS := Lib.hid hKK
        clear hKK
        go_simp
        refine (hov _).mono ?_
        rintro e w11 ⟨rfl, hx⟩
        go_wp2_with fail
        replace hR := hR.dr hx
        refine hKS.out.out _ _ hR.b (fun hHeld => ?_)
        clear hKS KK hx
        try simp only [Act.put, List.setIfInBounds_toArray, List.set_cons_zero, List.set_cons_succ]
        refine wpAnyH_take (i := 12) (oi := { dst := some 46, op := Op.indexAddr 53 (Operand.tmp 34) (Operand.tmp 35), type := _, pos := _, after := _, guard := _ }) (v := ?_) rfl (by kernel_rfl) (by kernel_rfl) (by kernel_rfl) (fun _ _ _ h => h) (Or.inl ⟨by rfl, ?_⟩) hHeld ?_
        rotate_left
        · intro wq hSw
          go_simp
          rfl
        try simp only [Act.put, List.setIfInBounds_toArray, List.set_cons_zero, List.set_cons_succ]
        refine wpAnyH_ready (rs := [13]) (by kernel_rfl) (by simp) ?_
        refine AllReadyH.cons (o := { dst := none, op := Op.store 9 (Operand.tmp 46) (Operand.tmp 45), type := _, pos := _, after := _, guard := _ }) rfl (fun KK hKK => ?_) AllReadyH.nil
        have hKS := Lib.hid hKK
        clear hKK
        have f0 := RS.frozen hR.r k
        have c0 := RS.cell hR.r hk
        go_simp
        have hR := hR.put k (ofB (Mm.over (toL (nth l k)) p (Nu.putB v N)))
        refine hKS.out.out _ _ hR.b (fun hHeld => ?_)
        clear hKS KK f0 c0
        generalize World.setCell w11 ⟨g, k, none⟩ (.string (ofB (Mm.over (toL (nth l k)) p (Nu.putB v N)))) = v13 at *
        try simp only [Act.put, List.setIfInBounds_toArray, List.set_cons_zero, List.set_cons_succ]
        refine wpAnyH_done (by kernel_rfl) ?_ _
        go_wp2_with fail
        go_ret2
        refine ⟨⟨_, _, _, _, rfl, hR.r, hl.m, ?_⟩, hR.b⟩
        rw [fs_set, toL_of]
        rfl
      refine AllReadyH.cons (o := { dst := some 44, op := Op.call { callee := Callee.value (Operand.func 43), args := #[Operand.tmp 42, Operand.tmp 43], argTypes := #[41, 3] }, type := _, pos := _, after := _, guard := _ }) rfl (fun KK hKK => ?_) AllReadyH.nil
      · have hKS := Lib.hid hKK
        clear hKK
        go_simp
        refine (put_any v (N : Int) N _ (by omega) (by omega)).mono ?_
        rintro e w10 ⟨rfl, hx⟩
        go_wp2_with fail
        replace hR := hR.below hx
        refine hKS.out.out _ _ hR.b (fun hHeld => ?_)
        clear hKS KK hx
        try simp only [Act.put, List.setIfInBounds_toArray, List.set_cons_zero, List.set_cons_succ]
        refine wpAnyH_ready (rs := [5]) (by kernel_rfl) (by simp) ?_
        refine AllReadyH.cons (o := { dst := some 39, op := Op.load 9 (Operand.tmp 38), type := _, pos := _, after := _, guard := _ }) rfl (fun KK hKK => ?_) AllReadyH.nil
        have hKS := Lib.hid hKK
        clear hKK
        have ck := RS.cell hR.r hk
        go_simp
        refine hKS.out.out _ _ hR.b (fun hHeld => ?_)
        clear hKS KK ck
        try simp only [Act.put, List.setIfInBounds_toArray, List.set_cons_zero, List.set_cons_succ]
        refine wpAnyH_ready (rs := [11]) (by kernel_rfl) (by simp) ?_
        refine AllReadyH.cons (o := { dst := some 45, op := Op.call { callee := Callee.value (Operand.func 66), args := #[Operand.tmp 39, Operand.tmp 40, Operand.tmp 44], argTypes := #[9, 3, 9] }, type := _, pos := _, after := _, guard := _ }) rfl (fun KK hKK => ?_) AllReadyH.nil
        have hKS := Lib.hid hKK
        clear hKK
        go_simp
        refine (hov _).mono ?_
        rintro e w11 ⟨rfl, hx⟩
        go_wp2_with fail
        replace hR := hR.dr hx
        refine hKS.out.out _ _ hR.b (fun hHeld => ?_)
        clear hKS KK hx
        try simp only [Act.put, List.setIfInBounds_toArray, List.set_cons_zero, List.set_cons_succ]
        refine wpAnyH_take (i := 12) (oi := { dst := some 46, op := Op.indexAddr 53 (Operand.tmp 34) (Operand.tmp 35), type := _, pos := _, after := _, guard := _ }) (v := ?_) rfl (by kernel_rfl) (by kernel_rfl) (by kernel_rfl) (fun _ _ _ h => h) (Or.inl ⟨by rfl, ?_⟩) hHeld ?_
        rotate_left
        · intro wq hSw
          go_simp
          rfl
        try simp only [Act.put, List.setIfInBounds_toArray, List.set_cons_zero, List.set_cons_succ]
        refine wpAnyH_ready (rs := [13]) (by kernel_rfl) (by simp) ?_
        refine AllReadyH.cons (o := { dst := none, op := Op.store 9 (Operand.tmp 46) (Operand.tmp 45), type := _, pos := _, after := _, guard := _ }) rfl (fun KK hKK => ?_) AllReadyH.nil
        have hKS := Lib.hid hKK
        clear hKK
        have f0 := RS.frozen hR.r k
        have c0 := RS.cell hR.r hk
        go_simp
        have hR := hR.put k (ofB (Mm.over (toL (nth l k)) p (Nu.putB v N)))
        refine hKS.out.out _ _ hR.b (fun hHeld => ?_)
        clear hKS KK f0 c0
        generalize World.setCell w11 ⟨g, k, none⟩ (.string (ofB (Mm.over (toL (nth l k)) p (Nu.putB v N)))) = v13 at *
        try simp only [Act.put, List.setIfInBounds_toArray, List.set_cons_zero, List.set_cons_succ]
        refine wpAnyH_done (by kernel_rfl) ?_ _
        go_wp2_with fail
        go_ret2
        refine ⟨⟨_, _, _, _, rfl, hR.r, hl.m, ?_⟩, hR.b⟩
        rw [fs_set, toL_of]
        rfl
    · rw [if_neg ht]
      have hfm := fun wr (hh : Tz wr A len cap l) => frame_any A len cap l f wr hh.t hlen
      rw [decide_eq_false ht] at hfm
      clear hpg
      go_enter Try.func35, Try.ntmps35
      go_wp2_with (refine ls rfl rfl rfl hs ho ?_)
      refine (hf _).mono ?_
      rintro e w1 ⟨rfl, hx1⟩
      have hb1 := hb.trans (hx1.mono hb.size)
      have hl2 := hl1.below hx1
      clear hf ho hb hl1 hl hx1
      go_wp2_with fail
      refine (hfm _ hl2).mono ?_
      rintro e w2 ⟨rfl, rfl⟩
      go_wp2_with fail
      go_ret2
      exact ⟨MemIs.no, hb1⟩
theorem set_eq (f : ByteArray) (p b : Nat) (hp : p < f.size) : toL ((f.extract 0 p ++ ⟨#[UInt8.ofNat b]⟩) ++ f.extract (p + 1) f.size) = (toL f).set p (UInt8.ofNat b) := by
  rw [toL_app', toL_app', toL_extract, toL_extract, List.drop_zero, Nat.sub_zero]
  rw [List.set_eq_take_append_cons_drop, if_pos (by rw [toL_length]; exact hp)]
  rw [List.take_of_length_le (l := (toL f).drop (p + 1)) (by rw [List.length_drop, toL_length]; exact Nat.le_refl _)]
  simp [toL]
set_option maxHeartbeats 4000000 in
theorem rset_any (A : Option Addr) (len cap : Nat) (l : List ByteArray) (s : Mm.Sp) (hs : SpOk s) (q b : Nat) (w : World) (hl : Tz w A len cap l) (hq : q < 4294967296) (hb8 : b < 256) :
    Calls Try.prog 72 #[.slice A len cap, .agg (sc s), .int .u32 (q : Nat), .int .u8 (b : Nat)] w fun e w' => MemIs w.heap.size (Mm.setB (fs l) s q (UInt8.ofNat b)) e w' ∧ Below w.heap.size w w' := by
  have hb := grow w (Obj.cells (sc s) 57)
  have ho := Own.new w 57 (sc s)
  have hl1 := hl.below hb
  have hf := fun wr => rfind_any s hs q 1 true wr hq (by decide) (by decide)
  rw [set_find]
  unfold FindIs at hf
  have hlen : len ≤ 9223372036854775807 := Nat.le_trans hl.m (by decide)
  cases hr : Mm.find s q 1 true with
  | none =>
    rw [hr] at hf
    simp only [Option.map_none, Option.getD_none, Option.isSome_none] at hf ⊢
    go_enter Try.func72, Try.ntmps72
    go_wp2_with (refine ls rfl rfl rfl hs ho ?_)
    refine (hf _).mono ?_
    rintro e w1 ⟨rfl, hx1⟩
    have hb1 := hb.trans (hx1.mono hb.size)
    clear hf ho hb hl1
    go_wp2_with fail
    go_ret2
    exact ⟨MemIs.no, hb1⟩
  | some r =>
    obtain ⟨f, p⟩ := r
    obtain ⟨hok, -, -, hp⟩ := find_some hr
    have hpg : p < 128 := by omega
    rw [hr] at hf
    simp only [Option.map_some, Option.getD_some, Option.isSome_some] at hf ⊢
    by_cases ht : Mm.there (fs l) f
    · rw [if_pos ht]
      obtain ⟨k, bb, off, rfl, hk, rfl, -, hz, hfr⟩ := there_get hl1.t ht
      rw [hfr, Int.toNat_natCast]
      have hfm := fun wr (hh : Tz wr (some ⟨bb, off, none⟩) len cap l) => rframe_any (some ⟨bb, off, none⟩) len cap l (k : Int) wr hh.t hlen
      rw [decide_eq_true ht] at hfm
      have HS := Lib.hid (set_eq (nth l k) p b (by omega))
      have i5 : (k : Int) < (len : Int) := by omega
      have i6 : (p : Int) ≤ ((nth l k).size : Int) := by omega
      have i7 : (p : Int) + 1 ≤ ((nth l k).size : Int) := by omega
      have i8 : IntKind.i64.wrap ((p : Int) + 1) = (p : Int) + 1 := IntWalk.i64_in _ (by omega)
      have i9 : ((p : Int) + 1).toNat = p + 1 := by omega
      have z1 : ((nth l k).extract 0 p).size = p := by rw [ByteArray.size_extract]; omega
      have z2 : ((nth l k).extract (p + 1) (nth l k).size).size ≤ 128 := by rw [ByteArray.size_extract]; omega
      have y1 : ¬ 9223372036854775807 < ((nth l k).extract 0 p).size + 1 := by omega
      have y2 : ¬ 9223372036854775807 < ((nth l k).extract 0 p).size + 1 + ((nth l k).extract (p + 1) (nth l k).size).size := by omega
      have y3 : ¬ 9223372036854775807 < ((nth l k).extract 0 p ++ (⟨#[UInt8.ofNat b]⟩ : ByteArray)).size + ((nth l k).extract (p + 1) (nth l k).size).size := by
        rw [ByteArray.size_append]
        show ¬ 9223372036854775807 < _ + 1 + _
        omega
      have y4 : ¬ 9223372036854775807 < min p (nth l k).size + 1 := by omega
      have y5 : ¬ 9223372036854775807 < min p (nth l k).size + 1 + ((nth l k).size - (p + 1)) := by omega
      clear hfr hok hr ht hz hp z1 z2
      go_enter Try.func72, Try.ntmps72
      go_wp2_with (refine ls rfl rfl rfl hs ho ?_)
      refine (hf _).mono ?_
      rintro e w1 ⟨rfl, hx1⟩
      have hb1 := hb.trans (hx1.mono hb.size)
      have hl2 := hl1.below hx1
      clear hf ho hb hl1 hx1
      go_wp2_with fail
      refine (hfm _ hl2).mono ?_
      rintro e w2 ⟨rfl, rfl⟩
      have hr0 : RS (w1.alloc (Obj.cells #[] 9)) w.heap.size (some ⟨w1.heap.size, 0, none⟩) 0 0 [] := RS.empty (Own.new w1 9 #[]) hb1.size
      have hl3 := hl2.below (grow w1 (Obj.cells #[] 9))
      have hb3 := hb1.trans ((grow w1 (Obj.cells #[] 9)).mono hb1.size)
      clear hfm hl2 hb1
      go_wp2_with (at_builtin; refine app_all rfl (.tmp 29) (.tmp 30) rfl w.heap.size w1.heap.size 0 rfl hr0 _ _ _ l rfl hl3 hb3.size ?_; intro A' c' w2 hr hx2)
      rcases hr.form with ⟨_, h0', _⟩ | ⟨g, rfl, hg1, hg2⟩
      · omega
      have hR : Ro w.heap.size g len c' l w w2 := ⟨hr, hb3.trans hx2⟩
      clear hr hx2 hb3 hl3 hr0 hg1 hg2
      go_wp2_with fail
      refine wp_region_held_drew (S := fun w' => Below w.heap.size w w') (by kernel_rfl) hR.drew.b (fun hHeld => ?_)
      replace hR := hR.drew
      generalize w2.drew = W2 at *
      refine wpAnyH_take (i := 0) (oi := { dst := some 32, op := Op.move (Operand.tmp 13), type := _, pos := _, after := _, guard := _ }) (v := ?_) rfl (by kernel_rfl) (by kernel_rfl) (by kernel_rfl) (fun _ _ _ h => h) (Or.inl ⟨by rfl, ?_⟩) hHeld ?_
      rotate_left
      · intro wq hSw
        go_simp
        rfl
      try simp only [Act.put, List.setIfInBounds_toArray, List.set_cons_zero, List.set_cons_succ]
      refine wpAnyH_take (i := 1) (oi := { dst := some 33, op := Op.move (Operand.tmp 10), type := _, pos := _, after := _, guard := _ }) (v := ?_) rfl (by kernel_rfl) (by kernel_rfl) (by kernel_rfl) (fun _ _ _ h => h) (Or.inl ⟨by rfl, ?_⟩) hHeld ?_
      rotate_left
      · intro wq hSw
        go_simp
        rfl
      try simp only [Act.put, List.setIfInBounds_toArray, List.set_cons_zero, List.set_cons_succ]
      refine wpAnyH_take (i := 2) (oi := { dst := some 34, op := Op.move (Operand.tmp 13), type := _, pos := _, after := _, guard := _ }) (v := ?_) rfl (by kernel_rfl) (by kernel_rfl) (by kernel_rfl) (fun _ _ _ h => h) (Or.inl ⟨by rfl, ?_⟩) hHeld ?_
      rotate_left
      · intro wq hSw
        go_simp
        rfl
      try simp only [Act.put, List.setIfInBounds_toArray, List.set_cons_zero, List.set_cons_succ]
      refine wpAnyH_take (i := 3) (oi := { dst := some 35, op := Op.move (Operand.tmp 10), type := _, pos := _, after := _, guard := _ }) (v := ?_) rfl (by kernel_rfl) (by kernel_rfl) (by kernel_rfl) (fun _ _ _ h => h) (Or.inl ⟨by rfl, ?_⟩) hHeld ?_
      rotate_left
      · intro wq hSw
        go_simp
        rfl
      try simp only [Act.put, List.setIfInBounds_toArray, List.set_cons_zero, List.set_cons_succ]
      refine wpAnyH_take (i := 4) (oi := { dst := some 36, op := Op.indexAddr 53 (Operand.tmp 34) (Operand.tmp 35), type := _, pos := _, after := _, guard := _ }) (v := ?_) rfl (by kernel_rfl) (by kernel_rfl) (by kernel_rfl) (fun _ _ _ h => h) (Or.inl ⟨by rfl, ?_⟩) hHeld ?_
      rotate_left
      · intro wq hSw
        go_simp
        rfl
      try simp only [Act.put, List.setIfInBounds_toArray, List.set_cons_zero, List.set_cons_succ]
      refine wpAnyH_take (i := 6) (oi := { dst := some 38, op := Op.move (Operand.tmp 11), type := _, pos := _, after := _, guard := _ }) (v := ?_) rfl (by kernel_rfl) (by kernel_rfl) (by kernel_rfl) (fun _ _ _ h => h) (Or.inl ⟨by rfl, ?_⟩) hHeld ?_
      rotate_left
      · intro wq hSw
        go_simp
        rfl
      try simp only [Act.put, List.setIfInBounds_toArray, List.set_cons_zero, List.set_cons_succ]
      refine wpAnyH_take (i := 8) (oi := { dst := some 40, op := Op.move (Operand.tmp 3), type := _, pos := _, after := _, guard := _ }) (v := ?_) rfl (by kernel_rfl) (by kernel_rfl) (by kernel_rfl) (fun _ _ _ h => h) (Or.inl ⟨by rfl, ?_⟩) hHeld ?_
      rotate_left
      · intro wq hSw
        go_simp
        rfl
      try simp only [Act.put, List.setIfInBounds_toArray, List.set_cons_zero, List.set_cons_succ]
      refine wpAnyH_take (i := 12) (oi := { dst := some 44, op := Op.move (Operand.tmp 13), type := _, pos := _, after := _, guard := _ }) (v := ?_) rfl (by kernel_rfl) (by kernel_rfl) (by kernel_rfl) (fun _ _ _ h => h) (Or.inl ⟨by rfl, ?_⟩) hHeld ?_
      rotate_left
      · intro wq hSw
        go_simp
        rfl
      try simp only [Act.put, List.setIfInBounds_toArray, List.set_cons_zero, List.set_cons_succ]
      refine wpAnyH_take (i := 13) (oi := { dst := some 45, op := Op.move (Operand.tmp 10), type := _, pos := _, after := _, guard := _ }) (v := ?_) rfl (by kernel_rfl) (by kernel_rfl) (by kernel_rfl) (fun _ _ _ h => h) (Or.inl ⟨by rfl, ?_⟩) hHeld ?_
      rotate_left
      · intro wq hSw
        go_simp
        rfl
      try simp only [Act.put, List.setIfInBounds_toArray, List.set_cons_zero, List.set_cons_succ]
      refine wpAnyH_take (i := 14) (oi := { dst := some 46, op := Op.indexAddr 53 (Operand.tmp 44) (Operand.tmp 45), type := _, pos := _, after := _, guard := _ }) (v := ?_) rfl (by kernel_rfl) (by kernel_rfl) (by kernel_rfl) (fun _ _ _ h => h) (Or.inl ⟨by rfl, ?_⟩) hHeld ?_
      rotate_left
      · intro wq hSw
        go_simp
        rfl
      try simp only [Act.put, List.setIfInBounds_toArray, List.set_cons_zero, List.set_cons_succ]
      refine wpAnyH_take (i := 16) (oi := { dst := some 48, op := Op.move (Operand.tmp 11), type := _, pos := _, after := _, guard := _ }) (v := ?_) rfl (by kernel_rfl) (by kernel_rfl) (by kernel_rfl) (fun _ _ _ h => h) (Or.inl ⟨by rfl, ?_⟩) hHeld ?_
      rotate_left
      · intro wq hSw
        go_simp
        rfl
      try simp only [Act.put, List.setIfInBounds_toArray, List.set_cons_zero, List.set_cons_succ]
      refine wpAnyH_take (i := 17) (oi := { dst := some 49, op := Op.binOp BinOp.add 3 (Operand.tmp 48) (Operand.const (Value.int IntKind.i64 1)) 3, type := _, pos := _, after := _, guard := _ }) (v := ?_) rfl (by kernel_rfl) (by kernel_rfl) (by kernel_rfl) (fun _ _ _ h => h) (Or.inl ⟨by rfl, ?_⟩) hHeld ?_
      rotate_left
      · intro wq hSw
        go_simp
        rfl
      try simp only [Act.put, List.setIfInBounds_toArray, List.set_cons_zero, List.set_cons_succ]
      refine wpAnyH_ready (rs := [5, 9, 15]) (by kernel_rfl) (by simp) ?_
      refine AllReadyH.cons (o := { dst := some 37, op := Op.load 9 (Operand.tmp 36), type := _, pos := _, after := _, guard := _ }) rfl (fun KK hKK => ?_) ?_
      · have hKS := Lib.hid hKK
        clear hKK
        have ck := RS.cell hR.r hk
        go_simp
        refine hKS.out.out _ _ hR.b (fun hHeld => ?_)
        clear hKS KK ck
        try simp only [Act.put, List.setIfInBounds_toArray, List.set_cons_zero, List.set_cons_succ]
        refine wpAnyH_take (i := 7) (oi := { dst := some 39, op := Op.slice 9 (Operand.tmp 37) none (some (Operand.tmp 38)) none, type := _, pos := _, after := _, guard := _ }) (v := ?_) rfl (by kernel_rfl) (by kernel_rfl) (by kernel_rfl) (fun _ _ _ h => h) (Or.inl ⟨by rfl, ?_⟩) hHeld ?_
        rotate_left
        · intro wq hSw
          go_simp
          rfl
        try simp only [Act.put, List.setIfInBounds_toArray, List.set_cons_zero, List.set_cons_succ]
        refine wpAnyH_ready (rs := [9, 15]) (by kernel_rfl) (by simp) ?_
        refine AllReadyH.cons (o := { dst := some 41, op := Op.buildSlice 104 1 #[(0, Operand.tmp 40)], type := _, pos := _, after := _, guard := _ }) rfl (fun KK hKK => ?_) ?_
        · have hKS := Lib.hid hKK
          clear hKK
          go_simp
          have hR := hR.below (grow W2 (Obj.cells #[.int .u8 (b : Nat)] 5))
          refine hKS.out.out _ _ hR.b (fun hHeld => ?_)
          clear hKS KK
          have cb := (Own.new W2 5 #[.int .u8 (b : Nat)]).cell 0
          generalize World.alloc W2 (Obj.cells #[.int .u8 (b : Nat)] 5) = v9 at *
          generalize World.heap W2 = h9 at *
          generalize h9.size = gb at *
          try simp only [Act.put, List.setIfInBounds_toArray, List.set_cons_zero, List.set_cons_succ]
          refine wpAnyH_ready (rs := [10, 15]) (by kernel_rfl) (by simp) ?_
          refine AllReadyH.cons (o := { dst := some 42, op := Op.convert 104 9 (Operand.tmp 41), type := _, pos := _, after := _, guard := _ }) rfl (fun KK hKK => ?_) ?_
          · have hKS := Lib.hid hKK
            clear hKK
            have hcv := conv_one v9 gb (b : Nat) cb
            go_simp
            refine hKS.out.out _ _ hR.b (fun hHeld => ?_)
            clear hKS KK hcv cb
            try simp only [Act.put, List.setIfInBounds_toArray, List.set_cons_zero, List.set_cons_succ]
            refine wpAnyH_take (i := 11) (oi := { dst := some 43, op := Op.binOp BinOp.add 9 (Operand.tmp 39) (Operand.tmp 42) 9, type := _, pos := _, after := _, guard := _ }) (v := ?_) rfl (by kernel_rfl) (by kernel_rfl) (by kernel_rfl) (fun _ _ _ h => h) (Or.inl ⟨by rfl, ?_⟩) hHeld ?_
            rotate_left
            · intro wq hSw
              go_simp
              rfl
            try simp only [Act.put, List.setIfInBounds_toArray, List.set_cons_zero, List.set_cons_succ]
            refine wpAnyH_ready (rs := [15]) (by kernel_rfl) (by simp) ?_
            refine AllReadyH.cons (o := { dst := some 47, op := Op.load 9 (Operand.tmp 46), type := _, pos := _, after := _, guard := _ }) rfl (fun KK hKK => ?_) AllReadyH.nil
            have hKS := Lib.hid hKK
            clear hKK
            have ck := RS.cell hR.r hk
            go_simp
            refine hKS.out.out _ _ hR.b (fun hHeld => ?_)
            clear hKS KK ck
            try simp only [Act.put, List.setIfInBounds_toArray, List.set_cons_zero, List.set_cons_succ]
            refine wpAnyH_take (i := 18) (oi := { dst := some 50, op := Op.slice 9 (Operand.tmp 47) (some (Operand.tmp 49)) none none, type := _, pos := _, after := _, guard := _ }) (v := ?_) rfl (by kernel_rfl) (by kernel_rfl) (by kernel_rfl) (fun _ _ _ h => h) (Or.inl ⟨by rfl, ?_⟩) hHeld ?_
            rotate_left
            · intro wq hSw
              go_simp
              rfl
            try simp only [Act.put, List.setIfInBounds_toArray, List.set_cons_zero, List.set_cons_succ]
            refine wpAnyH_take (i := 19) (oi := { dst := some 51, op := Op.binOp BinOp.add 9 (Operand.tmp 43) (Operand.tmp 50) 9, type := _, pos := _, after := _, guard := _ }) (v := ?_) rfl (by kernel_rfl) (by kernel_rfl) (by kernel_rfl) (fun _ _ _ h => h) (Or.inl ⟨by rfl, ?_⟩) hHeld ?_
            rotate_left
            · intro wq hSw
              go_simp
              rfl
            try simp only [Act.put, List.setIfInBounds_toArray, List.set_cons_zero, List.set_cons_succ]
            refine wpAnyH_take (i := 20) (oi := { dst := some 52, op := Op.indexAddr 53 (Operand.tmp 32) (Operand.tmp 33), type := _, pos := _, after := _, guard := _ }) (v := ?_) rfl (by kernel_rfl) (by kernel_rfl) (by kernel_rfl) (fun _ _ _ h => h) (Or.inl ⟨by rfl, ?_⟩) hHeld ?_
            rotate_left
            · intro wq hSw
              go_simp
              rfl
            try simp only [Act.put, List.setIfInBounds_toArray, List.set_cons_zero, List.set_cons_succ]
            refine wpAnyH_ready (rs := [21]) (by kernel_rfl) (by simp) ?_
            refine AllReadyH.cons (o := { dst := none, op := Op.store 9 (Operand.tmp 52) (Operand.tmp 51), type := _, pos := _, after := _, guard := _ }) rfl (fun KK hKK => ?_) AllReadyH.nil
            have hKS := Lib.hid hKK
            clear hKK
            have f0 := RS.frozen hR.r k
            have c0 := RS.cell hR.r hk
            go_simp
            have hR := hR.put k (((nth l k).extract 0 p ++ ⟨#[UInt8.ofNat b]⟩) ++ (nth l k).extract (p + 1) (nth l k).size)
            refine hKS.out.out _ _ hR.b (fun hHeld => ?_)
            clear hKS KK f0 c0
            generalize World.setCell v9 ⟨g, k, none⟩ (.string (((nth l k).extract 0 p ++ ⟨#[UInt8.ofNat b]⟩) ++ (nth l k).extract (p + 1) (nth l k).size)) = v21 at *
            try simp only [Act.put, List.setIfInBounds_toArray, List.set_cons_zero, List.set_cons_succ]
            refine wpAnyH_done (by kernel_rfl) ?_ _
            go_wp2_with fail
            go_ret2
            refine ⟨⟨_, _, _, _, rfl, hR.r, hl.m, ?_⟩, hR.b⟩
            rw [fs_set, HS.out]
            rfl
          refine AllReadyH.cons (o := { dst := some 47, op := Op.load 9 (Operand.tmp 46), type := _, pos := _, after := _, guard := _ }) rfl (fun KK hKK => ?_) AllReadyH.nil
          · have hKS := Lib.hid hKK
            clear hKK
            have ck := RS.cell hR.r hk
            go_simp
            refine hKS.out.out _ _ hR.b (fun hHeld => ?_)
            clear hKS KK ck
            try simp only [Act.put, List.setIfInBounds_toArray, List.set_cons_zero, List.set_cons_succ]
            refine wpAnyH_take (i := 18) (oi := { dst := some 50, op := Op.slice 9 (Operand.tmp 47) (some (Operand.tmp 49)) none none, type := _, pos := _, after := _, guard := _ }) (v := ?_) rfl (by kernel_rfl) (by kernel_rfl) (by kernel_rfl) (fun _ _ _ h => h) (Or.inl ⟨by rfl, ?_⟩) hHeld ?_
            rotate_left
            · intro wq hSw
              go_simp
              rfl
            try simp only [Act.put, List.setIfInBounds_toArray, List.set_cons_zero, List.set_cons_succ]
            refine wpAnyH_ready (rs := [10]) (by kernel_rfl) (by simp) ?_
            refine AllReadyH.cons (o := { dst := some 42, op := Op.convert 104 9 (Operand.tmp 41), type := _, pos := _, after := _, guard := _ }) rfl (fun KK hKK => ?_) AllReadyH.nil
            have hKS := Lib.hid hKK
            clear hKK
            have hcv := conv_one v9 gb (b : Nat) cb
            go_simp
            refine hKS.out.out _ _ hR.b (fun hHeld => ?_)
            clear hKS KK hcv cb
            try simp only [Act.put, List.setIfInBounds_toArray, List.set_cons_zero, List.set_cons_succ]
            refine wpAnyH_take (i := 11) (oi := { dst := some 43, op := Op.binOp BinOp.add 9 (Operand.tmp 39) (Operand.tmp 42) 9, type := _, pos := _, after := _, guard := _ }) (v := ?_) rfl (by kernel_rfl) (by kernel_rfl) (by kernel_rfl) (fun _ _ _ h => h) (Or.inl ⟨by rfl, ?_⟩) hHeld ?_
            rotate_left
            · intro wq hSw
              go_simp
              rfl
            try simp only [Act.put, List.setIfInBounds_toArray, List.set_cons_zero, List.set_cons_succ]
            refine wpAnyH_take (i := 19) (oi := { dst := some 51, op := Op.binOp BinOp.add 9 (Operand.tmp 43) (Operand.tmp 50) 9, type := _, pos := _, after := _, guard := _ }) (v := ?_) rfl (by kernel_rfl) (by kernel_rfl) (by kernel_rfl) (fun _ _ _ h => h) (Or.inl ⟨by rfl, ?_⟩) hHeld ?_
            rotate_left
            · intro wq hSw
              go_simp
              rfl
            try simp only [Act.put, List.setIfInBounds_toArray, List.set_cons_zero, List.set_cons_succ]
            refine wpAnyH_take (i := 20) (oi := { dst := some 52, op := Op.indexAddr 53 (Operand.tmp 32) (Operand.tmp 33), type := _, pos := _, after := _, guard := _ }) (v := ?_) rfl (by kernel_rfl) (by kernel_rfl) (by kernel_rfl) (fun _ _ _ h => h) (Or.inl ⟨by rfl, ?_⟩) hHeld ?_
            rotate_left
            · intro wq hSw
              go_simp
              rfl
            try simp only [Act.put, List.setIfInBounds_toArray, List.set_cons_zero, List.set_cons_succ]
            refine wpAnyH_ready (rs := [21]) (by kernel_rfl) (by simp) ?_
            refine AllReadyH.cons (o := { dst := none, op := Op.store 9 (Operand.tmp 52) (Operand.tmp 51), type := _, pos := _, after := _, guard := _ }) rfl (fun KK hKK => ?_) AllReadyH.nil
            have hKS := Lib.hid hKK
            clear hKK
            have f0 := RS.frozen hR.r k
            have c0 := RS.cell hR.r hk
            go_simp
            have hR := hR.put k (((nth l k).extract 0 p ++ ⟨#[UInt8.ofNat b]⟩) ++ (nth l k).extract (p + 1) (nth l k).size)
            refine hKS.out.out _ _ hR.b (fun hHeld => ?_)
            clear hKS KK f0 c0
            generalize World.setCell v9 ⟨g, k, none⟩ (.string (((nth l k).extract 0 p ++ ⟨#[UInt8.ofNat b]⟩) ++ (nth l k).extract (p + 1) (nth l k).size)) = v21 at *
            try simp only [Act.put, List.setIfInBounds_toArray, List.set_cons_zero, List.set_cons_succ]
            refine wpAnyH_done (by kernel_rfl) ?_ _
            go_wp2_with fail
            go_ret2
            refine ⟨⟨_, _, _, _, rfl, hR.r, hl.m, ?_⟩, hR.b⟩
            rw [fs_set, HS.out]
            rfl
        refine AllReadyH.cons (o := { dst := some 47, op := Op.load 9 (Operand.tmp 46), type := _, pos := _, after := _, guard := _ }) rfl (fun KK hKK => ?_) AllReadyH.nil
        · have hKS := Lib.hid hKK
          clear hKK
          have ck := RS.cell hR.r hk
          go_simp
          refine hKS.out.out _ _ hR.b (fun hHeld => ?_)
          clear hKS KK ck
          try simp only [Act.put, List.setIfInBounds_toArray, List.set_cons_zero, List.set_cons_succ]
          refine wpAnyH_take (i := 18) (oi := { dst := some 50, op := Op.slice 9 (Operand.tmp 47) (some (Operand.tmp 49)) none none, type := _, pos := _, after := _, guard := _ }) (v := ?_) rfl (by kernel_rfl) (by kernel_rfl) (by kernel_rfl) (fun _ _ _ h => h) (Or.inl ⟨by rfl, ?_⟩) hHeld ?_
          rotate_left
          · intro wq hSw
            go_simp
            rfl
          try simp only [Act.put, List.setIfInBounds_toArray, List.set_cons_zero, List.set_cons_succ]
          refine wpAnyH_ready (rs := [9]) (by kernel_rfl) (by simp) ?_
          refine AllReadyH.cons (o := { dst := some 41, op := Op.buildSlice 104 1 #[(0, Operand.tmp 40)], type := _, pos := _, after := _, guard := _ }) rfl (fun KK hKK => ?_) AllReadyH.nil
          have hKS := Lib.hid hKK
          clear hKK
          go_simp
          have hR := hR.below (grow W2 (Obj.cells #[.int .u8 (b : Nat)] 5))
          refine hKS.out.out _ _ hR.b (fun hHeld => ?_)
          clear hKS KK
          have cb := (Own.new W2 5 #[.int .u8 (b : Nat)]).cell 0
          generalize World.alloc W2 (Obj.cells #[.int .u8 (b : Nat)] 5) = v9 at *
          generalize World.heap W2 = h9 at *
          generalize h9.size = gb at *
          try simp only [Act.put, List.setIfInBounds_toArray, List.set_cons_zero, List.set_cons_succ]
          refine wpAnyH_ready (rs := [10]) (by kernel_rfl) (by simp) ?_
          refine AllReadyH.cons (o := { dst := some 42, op := Op.convert 104 9 (Operand.tmp 41), type := _, pos := _, after := _, guard := _ }) rfl (fun KK hKK => ?_) AllReadyH.nil
          have hKS := Lib.hid hKK
          clear hKK
          have hcv := conv_one v9 gb (b : Nat) cb
          go_simp
          refine hKS.out.out _ _ hR.b (fun hHeld => ?_)
          clear hKS KK hcv cb
          try simp only [Act.put, List.setIfInBounds_toArray, List.set_cons_zero, List.set_cons_succ]
          refine wpAnyH_take (i := 11) (oi := { dst := some 43, op := Op.binOp BinOp.add 9 (Operand.tmp 39) (Operand.tmp 42) 9, type := _, pos := _, after := _, guard := _ }) (v := ?_) rfl (by kernel_rfl) (by kernel_rfl) (by kernel_rfl) (fun _ _ _ h => h) (Or.inl ⟨by rfl, ?_⟩) hHeld ?_
          rotate_left
          · intro wq hSw
            go_simp
            rfl
          try simp only [Act.put, List.setIfInBounds_toArray, List.set_cons_zero, List.set_cons_succ]
          refine wpAnyH_take (i := 19) (oi := { dst := some 51, op := Op.binOp BinOp.add 9 (Operand.tmp 43) (Operand.tmp 50) 9, type := _, pos := _, after := _, guard := _ }) (v := ?_) rfl (by kernel_rfl) (by kernel_rfl) (by kernel_rfl) (fun _ _ _ h => h) (Or.inl ⟨by rfl, ?_⟩) hHeld ?_
          rotate_left
          · intro wq hSw
            go_simp
            rfl
          try simp only [Act.put, List.setIfInBounds_toArray, List.set_cons_zero, List.set_cons_succ]
          refine wpAnyH_take (i := 20) (oi := { dst := some 52, op := Op.indexAddr 53 (Operand.tmp 32) (Operand.tmp 33), type := _, pos := _, after := _, guard := _ }) (v := ?_) rfl (by kernel_rfl) (by kernel_rfl) (by kernel_rfl) (fun _ _ _ h => h) (Or.inl ⟨by rfl, ?_⟩) hHeld ?_
          rotate_left
          · intro wq hSw
            go_simp
            rfl
          try simp only [Act.put, List.setIfInBounds_toArray, List.set_cons_zero, List.set_cons_succ]
          refine wpAnyH_ready (rs := [21]) (by kernel_rfl) (by simp) ?_
          refine AllReadyH.cons (o := { dst := none, op := Op.store 9 (Operand.tmp 52) (Operand.tmp 51), type := _, pos := _, after := _, guard := _ }) rfl (fun KK hKK => ?_) AllReadyH.nil
          have hKS := Lib.hid hKK
          clear hKK
          have f0 := RS.frozen hR.r k
          have c0 := RS.cell hR.r hk
          go_simp
          have hR := hR.put k (((nth l k).extract 0 p ++ ⟨#[UInt8.ofNat b]⟩) ++ (nth l k).extract (p + 1) (nth l k).size)
          refine hKS.out.out _ _ hR.b (fun hHeld => ?_)
          clear hKS KK f0 c0
          generalize World.setCell v9 ⟨g, k, none⟩ (.string (((nth l k).extract 0 p ++ ⟨#[UInt8.ofNat b]⟩) ++ (nth l k).extract (p + 1) (nth l k).size)) = v21 at *
          try simp only [Act.put, List.setIfInBounds_toArray, List.set_cons_zero, List.set_cons_succ]
          refine wpAnyH_done (by kernel_rfl) ?_ _
          go_wp2_with fail
          go_ret2
          refine ⟨⟨_, _, _, _, rfl, hR.r, hl.m, ?_⟩, hR.b⟩
          rw [fs_set, HS.out]
          rfl
      refine AllReadyH.cons (o := { dst := some 41, op := Op.buildSlice 104 1 #[(0, Operand.tmp 40)], type := _, pos := _, after := _, guard := _ }) rfl (fun KK hKK => ?_) ?_
      · have hKS := Lib.hid hKK
        clear hKK
        go_simp
        have hR := hR.below (grow W2 (Obj.cells #[.int .u8 (b : Nat)] 5))
        refine hKS.out.out _ _ hR.b (fun hHeld => ?_)
        clear hKS KK
        have cb := (Own.new W2 5 #[.int .u8 (b : Nat)]).cell 0
        generalize World.alloc W2 (Obj.cells #[.int .u8 (b : Nat)] 5) = v9 at *
        generalize World.heap W2 = h9 at *
        generalize h9.size = gb at *
        try simp only [Act.put, List.setIfInBounds_toArray, List.set_cons_zero, List.set_cons_succ]
        refine wpAnyH_ready (rs := [5, 10, 15]) (by kernel_rfl) (by simp) ?_
        refine AllReadyH.cons (o := { dst := some 37, op := Op.load 9 (Operand.tmp 36), type := _, pos := _, after := _, guard := _ }) rfl (fun KK hKK => ?_) ?_
        · have hKS := Lib.hid hKK
          clear hKK
          have ck := RS.cell hR.r hk
          go_simp
          refine hKS.out.out _ _ hR.b (fun hHeld => ?_)
          clear hKS KK ck
          try simp only [Act.put, List.setIfInBounds_toArray, List.set_cons_zero, List.set_cons_succ]
          refine wpAnyH_take (i := 7) (oi := { dst := some 39, op := Op.slice 9 (Operand.tmp 37) none (some (Operand.tmp 38)) none, type := _, pos := _, after := _, guard := _ }) (v := ?_) rfl (by kernel_rfl) (by kernel_rfl) (by kernel_rfl) (fun _ _ _ h => h) (Or.inl ⟨by rfl, ?_⟩) hHeld ?_
          rotate_left
          · intro wq hSw
            go_simp
            rfl
          try simp only [Act.put, List.setIfInBounds_toArray, List.set_cons_zero, List.set_cons_succ]
          refine wpAnyH_ready (rs := [10, 15]) (by kernel_rfl) (by simp) ?_
          refine AllReadyH.cons (o := { dst := some 42, op := Op.convert 104 9 (Operand.tmp 41), type := _, pos := _, after := _, guard := _ }) rfl (fun KK hKK => ?_) ?_
          · have hKS := Lib.hid hKK
            clear hKK
            have hcv := conv_one v9 gb (b : Nat) cb
            go_simp
            refine hKS.out.out _ _ hR.b (fun hHeld => ?_)
            clear hKS KK hcv cb
            try simp only [Act.put, List.setIfInBounds_toArray, List.set_cons_zero, List.set_cons_succ]
            refine wpAnyH_take (i := 11) (oi := { dst := some 43, op := Op.binOp BinOp.add 9 (Operand.tmp 39) (Operand.tmp 42) 9, type := _, pos := _, after := _, guard := _ }) (v := ?_) rfl (by kernel_rfl) (by kernel_rfl) (by kernel_rfl) (fun _ _ _ h => h) (Or.inl ⟨by rfl, ?_⟩) hHeld ?_
            rotate_left
            · intro wq hSw
              go_simp
              rfl
            try simp only [Act.put, List.setIfInBounds_toArray, List.set_cons_zero, List.set_cons_succ]
            refine wpAnyH_ready (rs := [15]) (by kernel_rfl) (by simp) ?_
            refine AllReadyH.cons (o := { dst := some 47, op := Op.load 9 (Operand.tmp 46), type := _, pos := _, after := _, guard := _ }) rfl (fun KK hKK => ?_) AllReadyH.nil
            have hKS := Lib.hid hKK
            clear hKK
            have ck := RS.cell hR.r hk
            go_simp
            refine hKS.out.out _ _ hR.b (fun hHeld => ?_)
            clear hKS KK ck
            try simp only [Act.put, List.setIfInBounds_toArray, List.set_cons_zero, List.set_cons_succ]
            refine wpAnyH_take (i := 18) (oi := { dst := some 50, op := Op.slice 9 (Operand.tmp 47) (some (Operand.tmp 49)) none none, type := _, pos := _, after := _, guard := _ }) (v := ?_) rfl (by kernel_rfl) (by kernel_rfl) (by kernel_rfl) (fun _ _ _ h => h) (Or.inl ⟨by rfl, ?_⟩) hHeld ?_
            rotate_left
            · intro wq hSw
              go_simp
              rfl
            try simp only [Act.put, List.setIfInBounds_toArray, List.set_cons_zero, List.set_cons_succ]
            refine wpAnyH_take (i := 19) (oi := { dst := some 51, op := Op.binOp BinOp.add 9 (Operand.tmp 43) (Operand.tmp 50) 9, type := _, pos := _, after := _, guard := _ }) (v := ?_) rfl (by kernel_rfl) (by kernel_rfl) (by kernel_rfl) (fun _ _ _ h => h) (Or.inl ⟨by rfl, ?_⟩) hHeld ?_
            rotate_left
            · intro wq hSw
              go_simp
              rfl
            try simp only [Act.put, List.setIfInBounds_toArray, List.set_cons_zero, List.set_cons_succ]
            refine wpAnyH_take (i := 20) (oi := { dst := some 52, op := Op.indexAddr 53 (Operand.tmp 32) (Operand.tmp 33), type := _, pos := _, after := _, guard := _ }) (v := ?_) rfl (by kernel_rfl) (by kernel_rfl) (by kernel_rfl) (fun _ _ _ h => h) (Or.inl ⟨by rfl, ?_⟩) hHeld ?_
            rotate_left
            · intro wq hSw
              go_simp
              rfl
            try simp only [Act.put, List.setIfInBounds_toArray, List.set_cons_zero, List.set_cons_succ]
            refine wpAnyH_ready (rs := [21]) (by kernel_rfl) (by simp) ?_
            refine AllReadyH.cons (o := { dst := none, op := Op.store 9 (Operand.tmp 52) (Operand.tmp 51), type := _, pos := _, after := _, guard := _ }) rfl (fun KK hKK => ?_) AllReadyH.nil
            have hKS := Lib.hid hKK
            clear hKK
            have f0 := RS.frozen hR.r k
            have c0 := RS.cell hR.r hk
            go_simp
            have hR := hR.put k (((nth l k).extract 0 p ++ ⟨#[UInt8.ofNat b]⟩) ++ (nth l k).extract (p + 1) (nth l k).size)
            refine hKS.out.out _ _ hR.b (fun hHeld => ?_)
            clear hKS KK f0 c0
            generalize World.setCell v9 ⟨g, k, none⟩ (.string (((nth l k).extract 0 p ++ ⟨#[UInt8.ofNat b]⟩) ++ (nth l k).extract (p + 1) (nth l k).size)) = v21 at *
            try simp only [Act.put, List.setIfInBounds_toArray, List.set_cons_zero, List.set_cons_succ]
            refine wpAnyH_done (by kernel_rfl) ?_ _
            go_wp2_with fail
            go_ret2
            refine ⟨⟨_, _, _, _, rfl, hR.r, hl.m, ?_⟩, hR.b⟩
            rw [fs_set, HS.out]
            rfl
          refine AllReadyH.cons (o := { dst := some 47, op := Op.load 9 (Operand.tmp 46), type := _, pos := _, after := _, guard := _ }) rfl (fun KK hKK => ?_) AllReadyH.nil
          · have hKS := Lib.hid hKK
            clear hKK
            have ck := RS.cell hR.r hk
            go_simp
            refine hKS.out.out _ _ hR.b (fun hHeld => ?_)
            clear hKS KK ck
            try simp only [Act.put, List.setIfInBounds_toArray, List.set_cons_zero, List.set_cons_succ]
            refine wpAnyH_take (i := 18) (oi := { dst := some 50, op := Op.slice 9 (Operand.tmp 47) (some (Operand.tmp 49)) none none, type := _, pos := _, after := _, guard := _ }) (v := ?_) rfl (by kernel_rfl) (by kernel_rfl) (by kernel_rfl) (fun _ _ _ h => h) (Or.inl ⟨by rfl, ?_⟩) hHeld ?_
            rotate_left
            · intro wq hSw
              go_simp
              rfl
            try simp only [Act.put, List.setIfInBounds_toArray, List.set_cons_zero, List.set_cons_succ]
            refine wpAnyH_ready (rs := [10]) (by kernel_rfl) (by simp) ?_
            refine AllReadyH.cons (o := { dst := some 42, op := Op.convert 104 9 (Operand.tmp 41), type := _, pos := _, after := _, guard := _ }) rfl (fun KK hKK => ?_) AllReadyH.nil
            have hKS := Lib.hid hKK
            clear hKK
            have hcv := conv_one v9 gb (b : Nat) cb
            go_simp
            refine hKS.out.out _ _ hR.b (fun hHeld => ?_)
            clear hKS KK hcv cb
            try simp only [Act.put, List.setIfInBounds_toArray, List.set_cons_zero, List.set_cons_succ]
            refine wpAnyH_take (i := 11) (oi := { dst := some 43, op := Op.binOp BinOp.add 9 (Operand.tmp 39) (Operand.tmp 42) 9, type := _, pos := _, after := _, guard := _ }) (v := ?_) rfl (by kernel_rfl) (by kernel_rfl) (by kernel_rfl) (fun _ _ _ h => h) (Or.inl ⟨by rfl, ?_⟩) hHeld ?_
            rotate_left
            · intro wq hSw
              go_simp
              rfl
            try simp only [Act.put, List.setIfInBounds_toArray, List.set_cons_zero, List.set_cons_succ]
            refine wpAnyH_take (i := 19) (oi := { dst := some 51, op := Op.binOp BinOp.add 9 (Operand.tmp 43) (Operand.tmp 50) 9, type := _, pos := _, after := _, guard := _ }) (v := ?_) rfl (by kernel_rfl) (by kernel_rfl) (by kernel_rfl) (fun _ _ _ h => h) (Or.inl ⟨by rfl, ?_⟩) hHeld ?_
            rotate_left
            · intro wq hSw
              go_simp
              rfl
            try simp only [Act.put, List.setIfInBounds_toArray, List.set_cons_zero, List.set_cons_succ]
            refine wpAnyH_take (i := 20) (oi := { dst := some 52, op := Op.indexAddr 53 (Operand.tmp 32) (Operand.tmp 33), type := _, pos := _, after := _, guard := _ }) (v := ?_) rfl (by kernel_rfl) (by kernel_rfl) (by kernel_rfl) (fun _ _ _ h => h) (Or.inl ⟨by rfl, ?_⟩) hHeld ?_
            rotate_left
            · intro wq hSw
              go_simp
              rfl
            try simp only [Act.put, List.setIfInBounds_toArray, List.set_cons_zero, List.set_cons_succ]
            refine wpAnyH_ready (rs := [21]) (by kernel_rfl) (by simp) ?_
            refine AllReadyH.cons (o := { dst := none, op := Op.store 9 (Operand.tmp 52) (Operand.tmp 51), type := _, pos := _, after := _, guard := _ }) rfl (fun KK hKK => ?_) AllReadyH.nil
            have hKS := Lib.hid hKK
            clear hKK
            have f0 := RS.frozen hR.r k
            have c0 := RS.cell hR.r hk
            go_simp
            have hR := hR.put k (((nth l k).extract 0 p ++ ⟨#[UInt8.ofNat b]⟩) ++ (nth l k).extract (p + 1) (nth l k).size)
            refine hKS.out.out _ _ hR.b (fun hHeld => ?_)
            clear hKS KK f0 c0
            generalize World.setCell v9 ⟨g, k, none⟩ (.string (((nth l k).extract 0 p ++ ⟨#[UInt8.ofNat b]⟩) ++ (nth l k).extract (p + 1) (nth l k).size)) = v21 at *
            try simp only [Act.put, List.setIfInBounds_toArray, List.set_cons_zero, List.set_cons_succ]
            refine wpAnyH_done (by kernel_rfl) ?_ _
            go_wp2_with fail
            go_ret2
            refine ⟨⟨_, _, _, _, rfl, hR.r, hl.m, ?_⟩, hR.b⟩
            rw [fs_set, HS.out]
            rfl
        refine AllReadyH.cons (o := { dst := some 42, op := Op.convert 104 9 (Operand.tmp 41), type := _, pos := _, after := _, guard := _ }) rfl (fun KK hKK => ?_) ?_
        · have hKS := Lib.hid hKK
          clear hKK
          have hcv := conv_one v9 gb (b : Nat) cb
          go_simp
          refine hKS.out.out _ _ hR.b (fun hHeld => ?_)
          clear hKS KK hcv cb
          try simp only [Act.put, List.setIfInBounds_toArray, List.set_cons_zero, List.set_cons_succ]
          refine wpAnyH_ready (rs := [5, 15]) (by kernel_rfl) (by simp) ?_
          refine AllReadyH.cons (o := { dst := some 37, op := Op.load 9 (Operand.tmp 36), type := _, pos := _, after := _, guard := _ }) rfl (fun KK hKK => ?_) ?_
          · have hKS := Lib.hid hKK
            clear hKK
            have ck := RS.cell hR.r hk
            go_simp
            refine hKS.out.out _ _ hR.b (fun hHeld => ?_)
            clear hKS KK ck
            try simp only [Act.put, List.setIfInBounds_toArray, List.set_cons_zero, List.set_cons_succ]
            refine wpAnyH_take (i := 7) (oi := { dst := some 39, op := Op.slice 9 (Operand.tmp 37) none (some (Operand.tmp 38)) none, type := _, pos := _, after := _, guard := _ }) (v := ?_) rfl (by kernel_rfl) (by kernel_rfl) (by kernel_rfl) (fun _ _ _ h => h) (Or.inl ⟨by rfl, ?_⟩) hHeld ?_
            rotate_left
            · intro wq hSw
              go_simp
              rfl
            try simp only [Act.put, List.setIfInBounds_toArray, List.set_cons_zero, List.set_cons_succ]
            refine wpAnyH_take (i := 11) (oi := { dst := some 43, op := Op.binOp BinOp.add 9 (Operand.tmp 39) (Operand.tmp 42) 9, type := _, pos := _, after := _, guard := _ }) (v := ?_) rfl (by kernel_rfl) (by kernel_rfl) (by kernel_rfl) (fun _ _ _ h => h) (Or.inl ⟨by rfl, ?_⟩) hHeld ?_
            rotate_left
            · intro wq hSw
              go_simp
              rfl
            try simp only [Act.put, List.setIfInBounds_toArray, List.set_cons_zero, List.set_cons_succ]
            refine wpAnyH_ready (rs := [15]) (by kernel_rfl) (by simp) ?_
            refine AllReadyH.cons (o := { dst := some 47, op := Op.load 9 (Operand.tmp 46), type := _, pos := _, after := _, guard := _ }) rfl (fun KK hKK => ?_) AllReadyH.nil
            have hKS := Lib.hid hKK
            clear hKK
            have ck := RS.cell hR.r hk
            go_simp
            refine hKS.out.out _ _ hR.b (fun hHeld => ?_)
            clear hKS KK ck
            try simp only [Act.put, List.setIfInBounds_toArray, List.set_cons_zero, List.set_cons_succ]
            refine wpAnyH_take (i := 18) (oi := { dst := some 50, op := Op.slice 9 (Operand.tmp 47) (some (Operand.tmp 49)) none none, type := _, pos := _, after := _, guard := _ }) (v := ?_) rfl (by kernel_rfl) (by kernel_rfl) (by kernel_rfl) (fun _ _ _ h => h) (Or.inl ⟨by rfl, ?_⟩) hHeld ?_
            rotate_left
            · intro wq hSw
              go_simp
              rfl
            try simp only [Act.put, List.setIfInBounds_toArray, List.set_cons_zero, List.set_cons_succ]
            refine wpAnyH_take (i := 19) (oi := { dst := some 51, op := Op.binOp BinOp.add 9 (Operand.tmp 43) (Operand.tmp 50) 9, type := _, pos := _, after := _, guard := _ }) (v := ?_) rfl (by kernel_rfl) (by kernel_rfl) (by kernel_rfl) (fun _ _ _ h => h) (Or.inl ⟨by rfl, ?_⟩) hHeld ?_
            rotate_left
            · intro wq hSw
              go_simp
              rfl
            try simp only [Act.put, List.setIfInBounds_toArray, List.set_cons_zero, List.set_cons_succ]
            refine wpAnyH_take (i := 20) (oi := { dst := some 52, op := Op.indexAddr 53 (Operand.tmp 32) (Operand.tmp 33), type := _, pos := _, after := _, guard := _ }) (v := ?_) rfl (by kernel_rfl) (by kernel_rfl) (by kernel_rfl) (fun _ _ _ h => h) (Or.inl ⟨by rfl, ?_⟩) hHeld ?_
            rotate_left
            · intro wq hSw
              go_simp
              rfl
            try simp only [Act.put, List.setIfInBounds_toArray, List.set_cons_zero, List.set_cons_succ]
            refine wpAnyH_ready (rs := [21]) (by kernel_rfl) (by simp) ?_
            refine AllReadyH.cons (o := { dst := none, op := Op.store 9 (Operand.tmp 52) (Operand.tmp 51), type := _, pos := _, after := _, guard := _ }) rfl (fun KK hKK => ?_) AllReadyH.nil
            have hKS := Lib.hid hKK
            clear hKK
            have f0 := RS.frozen hR.r k
            have c0 := RS.cell hR.r hk
            go_simp
            have hR := hR.put k (((nth l k).extract 0 p ++ ⟨#[UInt8.ofNat b]⟩) ++ (nth l k).extract (p + 1) (nth l k).size)
            refine hKS.out.out _ _ hR.b (fun hHeld => ?_)
            clear hKS KK f0 c0
            generalize World.setCell v9 ⟨g, k, none⟩ (.string (((nth l k).extract 0 p ++ ⟨#[UInt8.ofNat b]⟩) ++ (nth l k).extract (p + 1) (nth l k).size)) = v21 at *
            try simp only [Act.put, List.setIfInBounds_toArray, List.set_cons_zero, List.set_cons_succ]
            refine wpAnyH_done (by kernel_rfl) ?_ _
            go_wp2_with fail
            go_ret2
            refine ⟨⟨_, _, _, _, rfl, hR.r, hl.m, ?_⟩, hR.b⟩
            rw [fs_set, HS.out]
            rfl
          refine AllReadyH.cons (o := { dst := some 47, op := Op.load 9 (Operand.tmp 46), type := _, pos := _, after := _, guard := _ }) rfl (fun KK hKK => ?_) AllReadyH.nil
          · have hKS := Lib.hid hKK
            clear hKK
            have ck := RS.cell hR.r hk
            go_simp
            refine hKS.out.out _ _ hR.b (fun hHeld => ?_)
            clear hKS KK ck
            try simp only [Act.put, List.setIfInBounds_toArray, List.set_cons_zero, List.set_cons_succ]
            refine wpAnyH_take (i := 18) (oi := { dst := some 50, op := Op.slice 9 (Operand.tmp 47) (some (Operand.tmp 49)) none none, type := _, pos := _, after := _, guard := _ }) (v := ?_) rfl (by kernel_rfl) (by kernel_rfl) (by kernel_rfl) (fun _ _ _ h => h) (Or.inl ⟨by rfl, ?_⟩) hHeld ?_
            rotate_left
            · intro wq hSw
              go_simp
              rfl
            try simp only [Act.put, List.setIfInBounds_toArray, List.set_cons_zero, List.set_cons_succ]
            refine wpAnyH_ready (rs := [5]) (by kernel_rfl) (by simp) ?_
            refine AllReadyH.cons (o := { dst := some 37, op := Op.load 9 (Operand.tmp 36), type := _, pos := _, after := _, guard := _ }) rfl (fun KK hKK => ?_) AllReadyH.nil
            have hKS := Lib.hid hKK
            clear hKK
            have ck := RS.cell hR.r hk
            go_simp
            refine hKS.out.out _ _ hR.b (fun hHeld => ?_)
            clear hKS KK ck
            try simp only [Act.put, List.setIfInBounds_toArray, List.set_cons_zero, List.set_cons_succ]
            refine wpAnyH_take (i := 7) (oi := { dst := some 39, op := Op.slice 9 (Operand.tmp 37) none (some (Operand.tmp 38)) none, type := _, pos := _, after := _, guard := _ }) (v := ?_) rfl (by kernel_rfl) (by kernel_rfl) (by kernel_rfl) (fun _ _ _ h => h) (Or.inl ⟨by rfl, ?_⟩) hHeld ?_
            rotate_left
            · intro wq hSw
              go_simp
              rfl
            try simp only [Act.put, List.setIfInBounds_toArray, List.set_cons_zero, List.set_cons_succ]
            refine wpAnyH_take (i := 11) (oi := { dst := some 43, op := Op.binOp BinOp.add 9 (Operand.tmp 39) (Operand.tmp 42) 9, type := _, pos := _, after := _, guard := _ }) (v := ?_) rfl (by kernel_rfl) (by kernel_rfl) (by kernel_rfl) (fun _ _ _ h => h) (Or.inl ⟨by rfl, ?_⟩) hHeld ?_
            rotate_left
            · intro wq hSw
              go_simp
              rfl
            try simp only [Act.put, List.setIfInBounds_toArray, List.set_cons_zero, List.set_cons_succ]
            refine wpAnyH_take (i := 19) (oi := { dst := some 51, op := Op.binOp BinOp.add 9 (Operand.tmp 43) (Operand.tmp 50) 9, type := _, pos := _, after := _, guard := _ }) (v := ?_) rfl (by kernel_rfl) (by kernel_rfl) (by kernel_rfl) (fun _ _ _ h => h) (Or.inl ⟨by rfl, ?_⟩) hHeld ?_
            rotate_left
            · intro wq hSw
              go_simp
              rfl
            try simp only [Act.put, List.setIfInBounds_toArray, List.set_cons_zero, List.set_cons_succ]
            refine wpAnyH_take (i := 20) (oi := { dst := some 52, op := Op.indexAddr 53 (Operand.tmp 32) (Operand.tmp 33), type := _, pos := _, after := _, guard := _ }) (v := ?_) rfl (by kernel_rfl) (by kernel_rfl) (by kernel_rfl) (fun _ _ _ h => h) (Or.inl ⟨by rfl, ?_⟩) hHeld ?_
            rotate_left
            · intro wq hSw
              go_simp
              rfl
            try simp only [Act.put, List.setIfInBounds_toArray, List.set_cons_zero, List.set_cons_succ]
            refine wpAnyH_ready (rs := [21]) (by kernel_rfl) (by simp) ?_
            refine AllReadyH.cons (o := { dst := none, op := Op.store 9 (Operand.tmp 52) (Operand.tmp 51), type := _, pos := _, after := _, guard := _ }) rfl (fun KK hKK => ?_) AllReadyH.nil
            have hKS := Lib.hid hKK
            clear hKK
            have f0 := RS.frozen hR.r k
            have c0 := RS.cell hR.r hk
            go_simp
            have hR := hR.put k (((nth l k).extract 0 p ++ ⟨#[UInt8.ofNat b]⟩) ++ (nth l k).extract (p + 1) (nth l k).size)
            refine hKS.out.out _ _ hR.b (fun hHeld => ?_)
            clear hKS KK f0 c0
            generalize World.setCell v9 ⟨g, k, none⟩ (.string (((nth l k).extract 0 p ++ ⟨#[UInt8.ofNat b]⟩) ++ (nth l k).extract (p + 1) (nth l k).size)) = v21 at *
            try simp only [Act.put, List.setIfInBounds_toArray, List.set_cons_zero, List.set_cons_succ]
            refine wpAnyH_done (by kernel_rfl) ?_ _
            go_wp2_with fail
            go_ret2
            refine ⟨⟨_, _, _, _, rfl, hR.r, hl.m, ?_⟩, hR.b⟩
            rw [fs_set, HS.out]
            rfl
        refine AllReadyH.cons (o := { dst := some 47, op := Op.load 9 (Operand.tmp 46), type := _, pos := _, after := _, guard := _ }) rfl (fun KK hKK => ?_) AllReadyH.nil
        · have hKS := Lib.hid hKK
          clear hKK
          have ck := RS.cell hR.r hk
          go_simp
          refine hKS.out.out _ _ hR.b (fun hHeld => ?_)
          clear hKS KK ck
          try simp only [Act.put, List.setIfInBounds_toArray, List.set_cons_zero, List.set_cons_succ]
          refine wpAnyH_take (i := 18) (oi := { dst := some 50, op := Op.slice 9 (Operand.tmp 47) (some (Operand.tmp 49)) none none, type := _, pos := _, after := _, guard := _ }) (v := ?_) rfl (by kernel_rfl) (by kernel_rfl) (by kernel_rfl) (fun _ _ _ h => h) (Or.inl ⟨by rfl, ?_⟩) hHeld ?_
          rotate_left
          · intro wq hSw
            go_simp
            rfl
          try simp only [Act.put, List.setIfInBounds_toArray, List.set_cons_zero, List.set_cons_succ]
          refine wpAnyH_ready (rs := [5, 10]) (by kernel_rfl) (by simp) ?_
          refine AllReadyH.cons (o := { dst := some 37, op := Op.load 9 (Operand.tmp 36), type := _, pos := _, after := _, guard := _ }) rfl (fun KK hKK => ?_) ?_
          · have hKS := Lib.hid hKK
            clear hKK
            have ck := RS.cell hR.r hk
            go_simp
            refine hKS.out.out _ _ hR.b (fun hHeld => ?_)
            clear hKS KK ck
            try simp only [Act.put, List.setIfInBounds_toArray, List.set_cons_zero, List.set_cons_succ]
            refine wpAnyH_take (i := 7) (oi := { dst := some 39, op := Op.slice 9 (Operand.tmp 37) none (some (Operand.tmp 38)) none, type := _, pos := _, after := _, guard := _ }) (v := ?_) rfl (by kernel_rfl) (by kernel_rfl) (by kernel_rfl) (fun _ _ _ h => h) (Or.inl ⟨by rfl, ?_⟩) hHeld ?_
            rotate_left
            · intro wq hSw
              go_simp
              rfl
            try simp only [Act.put, List.setIfInBounds_toArray, List.set_cons_zero, List.set_cons_succ]
            refine wpAnyH_ready (rs := [10]) (by kernel_rfl) (by simp) ?_
            refine AllReadyH.cons (o := { dst := some 42, op := Op.convert 104 9 (Operand.tmp 41), type := _, pos := _, after := _, guard := _ }) rfl (fun KK hKK => ?_) AllReadyH.nil
            have hKS := Lib.hid hKK
            clear hKK
            have hcv := conv_one v9 gb (b : Nat) cb
            go_simp
            refine hKS.out.out _ _ hR.b (fun hHeld => ?_)
            clear hKS KK hcv cb
            try simp only [Act.put, List.setIfInBounds_toArray, List.set_cons_zero, List.set_cons_succ]
            refine wpAnyH_take (i := 11) (oi := { dst := some 43, op := Op.binOp BinOp.add 9 (Operand.tmp 39) (Operand.tmp 42) 9, type := _, pos := _, after := _, guard := _ }) (v := ?_) rfl (by kernel_rfl) (by kernel_rfl) (by kernel_rfl) (fun _ _ _ h => h) (Or.inl ⟨by rfl, ?_⟩) hHeld ?_
            rotate_left
            · intro wq hSw
              go_simp
              rfl
            try simp only [Act.put, List.setIfInBounds_toArray, List.set_cons_zero, List.set_cons_succ]
            refine wpAnyH_take (i := 19) (oi := { dst := some 51, op := Op.binOp BinOp.add 9 (Operand.tmp 43) (Operand.tmp 50) 9, type := _, pos := _, after := _, guard := _ }) (v := ?_) rfl (by kernel_rfl) (by kernel_rfl) (by kernel_rfl) (fun _ _ _ h => h) (Or.inl ⟨by rfl, ?_⟩) hHeld ?_
            rotate_left
            · intro wq hSw
              go_simp
              rfl
            try simp only [Act.put, List.setIfInBounds_toArray, List.set_cons_zero, List.set_cons_succ]
            refine wpAnyH_take (i := 20) (oi := { dst := some 52, op := Op.indexAddr 53 (Operand.tmp 32) (Operand.tmp 33), type := _, pos := _, after := _, guard := _ }) (v := ?_) rfl (by kernel_rfl) (by kernel_rfl) (by kernel_rfl) (fun _ _ _ h => h) (Or.inl ⟨by rfl, ?_⟩) hHeld ?_
            rotate_left
            · intro wq hSw
              go_simp
              rfl
            try simp only [Act.put, List.setIfInBounds_toArray, List.set_cons_zero, List.set_cons_succ]
            refine wpAnyH_ready (rs := [21]) (by kernel_rfl) (by simp) ?_
            refine AllReadyH.cons (o := { dst := none, op := Op.store 9 (Operand.tmp 52) (Operand.tmp 51), type := _, pos := _, after := _, guard := _ }) rfl (fun KK hKK => ?_) AllReadyH.nil
            have hKS := Lib.hid hKK
            clear hKK
            have f0 := RS.frozen hR.r k
            have c0 := RS.cell hR.r hk
            go_simp
            have hR := hR.put k (((nth l k).extract 0 p ++ ⟨#[UInt8.ofNat b]⟩) ++ (nth l k).extract (p + 1) (nth l k).size)
            refine hKS.out.out _ _ hR.b (fun hHeld => ?_)
            clear hKS KK f0 c0
            generalize World.setCell v9 ⟨g, k, none⟩ (.string (((nth l k).extract 0 p ++ ⟨#[UInt8.ofNat b]⟩) ++ (nth l k).extract (p + 1) (nth l k).size)) = v21 at *
            try simp only [Act.put, List.setIfInBounds_toArray, List.set_cons_zero, List.set_cons_succ]
            refine wpAnyH_done (by kernel_rfl) ?_ _
            go_wp2_with fail
            go_ret2
            refine ⟨⟨_, _, _, _, rfl, hR.r, hl.m, ?_⟩, hR.b⟩
            rw [fs_set, HS.out]
            rfl
          refine AllReadyH.cons (o := { dst := some 42, op := Op.convert 104 9 (Operand.tmp 41), type := _, pos := _, after := _, guard := _ }) rfl (fun KK hKK => ?_) AllReadyH.nil
          · have hKS := Lib.hid hKK
            clear hKK
            have hcv := conv_one v9 gb (b : Nat) cb
            go_simp
            refine hKS.out.out _ _ hR.b (fun hHeld => ?_)
            clear hKS KK hcv cb
            try simp only [Act.put, List.setIfInBounds_toArray, List.set_cons_zero, List.set_cons_succ]
            refine wpAnyH_ready (rs := [5]) (by kernel_rfl) (by simp) ?_
            refine AllReadyH.cons (o := { dst := some 37, op := Op.load 9 (Operand.tmp 36), type := _, pos := _, after := _, guard := _ }) rfl (fun KK hKK => ?_) AllReadyH.nil
            have hKS := Lib.hid hKK
            clear hKK
            have ck := RS.cell hR.r hk
            go_simp
            refine hKS.out.out _ _ hR.b (fun hHeld => ?_)
            clear hKS KK ck
            try simp only [Act.put, List.setIfInBounds_toArray, List.set_cons_zero, List.set_cons_succ]
            refine wpAnyH_take (i := 7) (oi := { dst := some 39, op := Op.slice 9 (Operand.tmp 37) none (some (Operand.tmp 38)) none, type := _, pos := _, after := _, guard := _ }) (v := ?_) rfl (by kernel_rfl) (by kernel_rfl) (by kernel_rfl) (fun _ _ _ h => h) (Or.inl ⟨by rfl, ?_⟩) hHeld ?_
            rotate_left
            · intro wq hSw
              go_simp
              rfl
            try simp only [Act.put, List.setIfInBounds_toArray, List.set_cons_zero, List.set_cons_succ]
            refine wpAnyH_take (i := 11) (oi := { dst := some 43, op := Op.binOp BinOp.add 9 (Operand.tmp 39) (Operand.tmp 42) 9, type := _, pos := _, after := _, guard := _ }) (v := ?_) rfl (by kernel_rfl) (by kernel_rfl) (by kernel_rfl) (fun _ _ _ h => h) (Or.inl ⟨by rfl, ?_⟩) hHeld ?_
            rotate_left
            · intro wq hSw
              go_simp
              rfl
            try simp only [Act.put, List.setIfInBounds_toArray, List.set_cons_zero, List.set_cons_succ]
            refine wpAnyH_take (i := 19) (oi := { dst := some 51, op := Op.binOp BinOp.add 9 (Operand.tmp 43) (Operand.tmp 50) 9, type := _, pos := _, after := _, guard := _ }) (v := ?_) rfl (by kernel_rfl) (by kernel_rfl) (by kernel_rfl) (fun _ _ _ h => h) (Or.inl ⟨by rfl, ?_⟩) hHeld ?_
            rotate_left
            · intro wq hSw
              go_simp
              rfl
            try simp only [Act.put, List.setIfInBounds_toArray, List.set_cons_zero, List.set_cons_succ]
            refine wpAnyH_take (i := 20) (oi := { dst := some 52, op := Op.indexAddr 53 (Operand.tmp 32) (Operand.tmp 33), type := _, pos := _, after := _, guard := _ }) (v := ?_) rfl (by kernel_rfl) (by kernel_rfl) (by kernel_rfl) (fun _ _ _ h => h) (Or.inl ⟨by rfl, ?_⟩) hHeld ?_
            rotate_left
            · intro wq hSw
              go_simp
              rfl
            try simp only [Act.put, List.setIfInBounds_toArray, List.set_cons_zero, List.set_cons_succ]
            refine wpAnyH_ready (rs := [21]) (by kernel_rfl) (by simp) ?_
            refine AllReadyH.cons (o := { dst := none, op := Op.store 9 (Operand.tmp 52) (Operand.tmp 51), type := _, pos := _, after := _, guard := _ }) rfl (fun KK hKK => ?_) AllReadyH.nil
            have hKS := Lib.hid hKK
            clear hKK
            have f0 := RS.frozen hR.r k
            have c0 := RS.cell hR.r hk
            go_simp
            have hR := hR.put k (((nth l k).extract 0 p ++ ⟨#[UInt8.ofNat b]⟩) ++ (nth l k).extract (p + 1) (nth l k).size)
            refine hKS.out.out _ _ hR.b (fun hHeld => ?_)
            clear hKS KK f0 c0
            generalize World.setCell v9 ⟨g, k, none⟩ (.string (((nth l k).extract 0 p ++ ⟨#[UInt8.ofNat b]⟩) ++ (nth l k).extract (p + 1) (nth l k).size)) = v21 at *
            try simp only [Act.put, List.setIfInBounds_toArray, List.set_cons_zero, List.set_cons_succ]
            refine wpAnyH_done (by kernel_rfl) ?_ _
            go_wp2_with fail
            go_ret2
            refine ⟨⟨_, _, _, _, rfl, hR.r, hl.m, ?_⟩, hR.b⟩
            rw [fs_set, HS.out]
            rfl
      refine AllReadyH.cons (o := { dst := some 47, op := Op.load 9 (Operand.tmp 46), type := _, pos := _, after := _, guard := _ }) rfl (fun KK hKK => ?_) AllReadyH.nil
      · have hKS := Lib.hid hKK
        clear hKK
        have ck := RS.cell hR.r hk
        go_simp
        refine hKS.out.out _ _ hR.b (fun hHeld => ?_)
        clear hKS KK ck
        try simp only [Act.put, List.setIfInBounds_toArray, List.set_cons_zero, List.set_cons_succ]
        refine wpAnyH_take (i := 18) (oi := { dst := some 50, op := Op.slice 9 (Operand.tmp 47) (some (Operand.tmp 49)) none none, type := _, pos := _, after := _, guard := _ }) (v := ?_) rfl (by kernel_rfl) (by kernel_rfl) (by kernel_rfl) (fun _ _ _ h => h) (Or.inl ⟨by rfl, ?_⟩) hHeld ?_
        rotate_left
        · intro wq hSw
          go_simp
          rfl
        try simp only [Act.put, List.setIfInBounds_toArray, List.set_cons_zero, List.set_cons_succ]
        refine wpAnyH_ready (rs := [5, 9]) (by kernel_rfl) (by simp) ?_
        refine AllReadyH.cons (o := { dst := some 37, op := Op.load 9 (Operand.tmp 36), type := _, pos := _, after := _, guard := _ }) rfl (fun KK hKK => ?_) ?_
        · have hKS := Lib.hid hKK
          clear hKK
          have ck := RS.cell hR.r hk
          go_simp
          refine hKS.out.out _ _ hR.b (fun hHeld => ?_)
          clear hKS KK ck
          try simp only [Act.put, List.setIfInBounds_toArray, List.set_cons_zero, List.set_cons_succ]
          refine wpAnyH_take (i := 7) (oi := { dst := some 39, op := Op.slice 9 (Operand.tmp 37) none (some (Operand.tmp 38)) none, type := _, pos := _, after := _, guard := _ }) (v := ?_) rfl (by kernel_rfl) (by kernel_rfl) (by kernel_rfl) (fun _ _ _ h => h) (Or.inl ⟨by rfl, ?_⟩) hHeld ?_
          rotate_left
          · intro wq hSw
            go_simp
            rfl
          try simp only [Act.put, List.setIfInBounds_toArray, List.set_cons_zero, List.set_cons_succ]
          refine wpAnyH_ready (rs := [9]) (by kernel_rfl) (by simp) ?_
          refine AllReadyH.cons (o := { dst := some 41, op := Op.buildSlice 104 1 #[(0, Operand.tmp 40)], type := _, pos := _, after := _, guard := _ }) rfl (fun KK hKK => ?_) AllReadyH.nil
          have hKS := Lib.hid hKK
          clear hKK
          go_simp
          have hR := hR.below (grow W2 (Obj.cells #[.int .u8 (b : Nat)] 5))
          refine hKS.out.out _ _ hR.b (fun hHeld => ?_)
          clear hKS KK
          have cb := (Own.new W2 5 #[.int .u8 (b : Nat)]).cell 0
          generalize World.alloc W2 (Obj.cells #[.int .u8 (b : Nat)] 5) = v9 at *
          generalize World.heap W2 = h9 at *
          generalize h9.size = gb at *
          try simp only [Act.put, List.setIfInBounds_toArray, List.set_cons_zero, List.set_cons_succ]
          refine wpAnyH_ready (rs := [10]) (by kernel_rfl) (by simp) ?_
          refine AllReadyH.cons (o := { dst := some 42, op := Op.convert 104 9 (Operand.tmp 41), type := _, pos := _, after := _, guard := _ }) rfl (fun KK hKK => ?_) AllReadyH.nil
          have hKS := Lib.hid hKK
          clear hKK
          have hcv := conv_one v9 gb (b : Nat) cb
          go_simp
          refine hKS.out.out _ _ hR.b (fun hHeld => ?_)
          clear hKS KK hcv cb
          try simp only [Act.put, List.setIfInBounds_toArray, List.set_cons_zero, List.set_cons_succ]
          refine wpAnyH_take (i := 11) (oi := { dst := some 43, op := Op.binOp BinOp.add 9 (Operand.tmp 39) (Operand.tmp 42) 9, type := _, pos := _, after := _, guard := _ }) (v := ?_) rfl (by kernel_rfl) (by kernel_rfl) (by kernel_rfl) (fun _ _ _ h => h) (Or.inl ⟨by rfl, ?_⟩) hHeld ?_
          rotate_left
          · intro wq hSw
            go_simp
            rfl
          try simp only [Act.put, List.setIfInBounds_toArray, List.set_cons_zero, List.set_cons_succ]
          refine wpAnyH_take (i := 19) (oi := { dst := some 51, op := Op.binOp BinOp.add 9 (Operand.tmp 43) (Operand.tmp 50) 9, type := _, pos := _, after := _, guard := _ }) (v := ?_) rfl (by kernel_rfl) (by kernel_rfl) (by kernel_rfl) (fun _ _ _ h => h) (Or.inl ⟨by rfl, ?_⟩) hHeld ?_
          rotate_left
          · intro wq hSw
            go_simp
            rfl
          try simp only [Act.put, List.setIfInBounds_toArray, List.set_cons_zero, List.set_cons_succ]
          refine wpAnyH_take (i := 20) (oi := { dst := some 52, op := Op.indexAddr 53 (Operand.tmp 32) (Operand.tmp 33), type := _, pos := _, after := _, guard := _ }) (v := ?_) rfl (by kernel_rfl) (by kernel_rfl) (by kernel_rfl) (fun _ _ _ h => h) (Or.inl ⟨by rfl, ?_⟩) hHeld ?_
          rotate_left
          · intro wq hSw
            go_simp
            rfl
          try simp only [Act.put, List.setIfInBounds_toArray, List.set_cons_zero, List.set_cons_succ]
          refine wpAnyH_ready (rs := [21]) (by kernel_rfl) (by simp) ?_
          refine AllReadyH.cons (o := { dst := none, op := Op.store 9 (Operand.tmp 52) (Operand.tmp 51), type := _, pos := _, after := _, guard := _ }) rfl (fun KK hKK => ?_) AllReadyH.nil
          have hKS := Lib.hid hKK
          clear hKK
          have f0 := RS.frozen hR.r k
          have c0 := RS.cell hR.r hk
          go_simp
          have hR := hR.put k (((nth l k).extract 0 p ++ ⟨#[UInt8.ofNat b]⟩) ++ (nth l k).extract (p + 1) (nth l k).size)
          refine hKS.out.out _ _ hR.b (fun hHeld => ?_)
          clear hKS KK f0 c0
          generalize World.setCell v9 ⟨g, k, none⟩ (.string (((nth l k).extract 0 p ++ ⟨#[UInt8.ofNat b]⟩) ++ (nth l k).extract (p + 1) (nth l k).size)) = v21 at *
          try simp only [Act.put, List.setIfInBounds_toArray, List.set_cons_zero, List.set_cons_succ]
          refine wpAnyH_done (by kernel_rfl) ?_ _
          go_wp2_with fail
          go_ret2
          refine ⟨⟨_, _, _, _, rfl, hR.r, hl.m, ?_⟩, hR.b⟩
          rw [fs_set, HS.out]
          rfl
        refine AllReadyH.cons (o := { dst := some 41, op := Op.buildSlice 104 1 #[(0, Operand.tmp 40)], type := _, pos := _, after := _, guard := _ }) rfl (fun KK hKK => ?_) AllReadyH.nil
        · have hKS := Lib.hid hKK
          clear hKK
          go_simp
          have hR := hR.below (grow W2 (Obj.cells #[.int .u8 (b : Nat)] 5))
          refine hKS.out.out _ _ hR.b (fun hHeld => ?_)
          clear hKS KK
          have cb := (Own.new W2 5 #[.int .u8 (b : Nat)]).cell 0
          generalize World.alloc W2 (Obj.cells #[.int .u8 (b : Nat)] 5) = v9 at *
          generalize World.heap W2 = h9 at *
          generalize h9.size = gb at *
          try simp only [Act.put, List.setIfInBounds_toArray, List.set_cons_zero, List.set_cons_succ]
          refine wpAnyH_ready (rs := [5, 10]) (by kernel_rfl) (by simp) ?_
          refine AllReadyH.cons (o := { dst := some 37, op := Op.load 9 (Operand.tmp 36), type := _, pos := _, after := _, guard := _ }) rfl (fun KK hKK => ?_) ?_
          · have hKS := Lib.hid hKK
            clear hKK
            have ck := RS.cell hR.r hk
            go_simp
            refine hKS.out.out _ _ hR.b (fun hHeld => ?_)
            clear hKS KK ck
            try simp only [Act.put, List.setIfInBounds_toArray, List.set_cons_zero, List.set_cons_succ]
            refine wpAnyH_take (i := 7) (oi := { dst := some 39, op := Op.slice 9 (Operand.tmp 37) none (some (Operand.tmp 38)) none, type := _, pos := _, after := _, guard := _ }) (v := ?_) rfl (by kernel_rfl) (by kernel_rfl) (by kernel_rfl) (fun _ _ _ h => h) (Or.inl ⟨by rfl, ?_⟩) hHeld ?_
            rotate_left
            · intro wq hSw
              go_simp
              rfl
            try simp only [Act.put, List.setIfInBounds_toArray, List.set_cons_zero, List.set_cons_succ]
            refine wpAnyH_ready (rs := [10]) (by kernel_rfl) (by simp) ?_
            refine AllReadyH.cons (o := { dst := some 42, op := Op.convert 104 9 (Operand.tmp 41), type := _, pos := _, after := _, guard := _ }) rfl (fun KK hKK => ?_) AllReadyH.nil
            have hKS := Lib.hid hKK
            clear hKK
            have hcv := conv_one v9 gb (b : Nat) cb
            go_simp
            refine hKS.out.out _ _ hR.b (fun hHeld => ?_)
            clear hKS KK hcv cb
            try simp only [Act.put, List.setIfInBounds_toArray, List.set_cons_zero, List.set_cons_succ]
            refine wpAnyH_take (i := 11) (oi := { dst := some 43, op := Op.binOp BinOp.add 9 (Operand.tmp 39) (Operand.tmp 42) 9, type := _, pos := _, after := _, guard := _ }) (v := ?_) rfl (by kernel_rfl) (by kernel_rfl) (by kernel_rfl) (fun _ _ _ h => h) (Or.inl ⟨by rfl, ?_⟩) hHeld ?_
            rotate_left
            · intro wq hSw
              go_simp
              rfl
            try simp only [Act.put, List.setIfInBounds_toArray, List.set_cons_zero, List.set_cons_succ]
            refine wpAnyH_take (i := 19) (oi := { dst := some 51, op := Op.binOp BinOp.add 9 (Operand.tmp 43) (Operand.tmp 50) 9, type := _, pos := _, after := _, guard := _ }) (v := ?_) rfl (by kernel_rfl) (by kernel_rfl) (by kernel_rfl) (fun _ _ _ h => h) (Or.inl ⟨by rfl, ?_⟩) hHeld ?_
            rotate_left
            · intro wq hSw
              go_simp
              rfl
            try simp only [Act.put, List.setIfInBounds_toArray, List.set_cons_zero, List.set_cons_succ]
            refine wpAnyH_take (i := 20) (oi := { dst := some 52, op := Op.indexAddr 53 (Operand.tmp 32) (Operand.tmp 33), type := _, pos := _, after := _, guard := _ }) (v := ?_) rfl (by kernel_rfl) (by kernel_rfl) (by kernel_rfl) (fun _ _ _ h => h) (Or.inl ⟨by rfl, ?_⟩) hHeld ?_
            rotate_left
            · intro wq hSw
              go_simp
              rfl
            try simp only [Act.put, List.setIfInBounds_toArray, List.set_cons_zero, List.set_cons_succ]
            refine wpAnyH_ready (rs := [21]) (by kernel_rfl) (by simp) ?_
            refine AllReadyH.cons (o := { dst := none, op := Op.store 9 (Operand.tmp 52) (Operand.tmp 51), type := _, pos := _, after := _, guard := _ }) rfl (fun KK hKK => ?_) AllReadyH.nil
            have hKS := Lib.hid hKK
            clear hKK
            have f0 := RS.frozen hR.r k
            have c0 := RS.cell hR.r hk
            go_simp
            have hR := hR.put k (((nth l k).extract 0 p ++ ⟨#[UInt8.ofNat b]⟩) ++ (nth l k).extract (p + 1) (nth l k).size)
            refine hKS.out.out _ _ hR.b (fun hHeld => ?_)
            clear hKS KK f0 c0
            generalize World.setCell v9 ⟨g, k, none⟩ (.string (((nth l k).extract 0 p ++ ⟨#[UInt8.ofNat b]⟩) ++ (nth l k).extract (p + 1) (nth l k).size)) = v21 at *
            try simp only [Act.put, List.setIfInBounds_toArray, List.set_cons_zero, List.set_cons_succ]
            refine wpAnyH_done (by kernel_rfl) ?_ _
            go_wp2_with fail
            go_ret2
            refine ⟨⟨_, _, _, _, rfl, hR.r, hl.m, ?_⟩, hR.b⟩
            rw [fs_set, HS.out]
            rfl
          refine AllReadyH.cons (o := { dst := some 42, op := Op.convert 104 9 (Operand.tmp 41), type := _, pos := _, after := _, guard := _ }) rfl (fun KK hKK => ?_) AllReadyH.nil
          · have hKS := Lib.hid hKK
            clear hKK
            have hcv := conv_one v9 gb (b : Nat) cb
            go_simp
            refine hKS.out.out _ _ hR.b (fun hHeld => ?_)
            clear hKS KK hcv cb
            try simp only [Act.put, List.setIfInBounds_toArray, List.set_cons_zero, List.set_cons_succ]
            refine wpAnyH_ready (rs := [5]) (by kernel_rfl) (by simp) ?_
            refine AllReadyH.cons (o := { dst := some 37, op := Op.load 9 (Operand.tmp 36), type := _, pos := _, after := _, guard := _ }) rfl (fun KK hKK => ?_) AllReadyH.nil
            have hKS := Lib.hid hKK
            clear hKK
            have ck := RS.cell hR.r hk
            go_simp
            refine hKS.out.out _ _ hR.b (fun hHeld => ?_)
            clear hKS KK ck
            try simp only [Act.put, List.setIfInBounds_toArray, List.set_cons_zero, List.set_cons_succ]
            refine wpAnyH_take (i := 7) (oi := { dst := some 39, op := Op.slice 9 (Operand.tmp 37) none (some (Operand.tmp 38)) none, type := _, pos := _, after := _, guard := _ }) (v := ?_) rfl (by kernel_rfl) (by kernel_rfl) (by kernel_rfl) (fun _ _ _ h => h) (Or.inl ⟨by rfl, ?_⟩) hHeld ?_
            rotate_left
            · intro wq hSw
              go_simp
              rfl
            try simp only [Act.put, List.setIfInBounds_toArray, List.set_cons_zero, List.set_cons_succ]
            refine wpAnyH_take (i := 11) (oi := { dst := some 43, op := Op.binOp BinOp.add 9 (Operand.tmp 39) (Operand.tmp 42) 9, type := _, pos := _, after := _, guard := _ }) (v := ?_) rfl (by kernel_rfl) (by kernel_rfl) (by kernel_rfl) (fun _ _ _ h => h) (Or.inl ⟨by rfl, ?_⟩) hHeld ?_
            rotate_left
            · intro wq hSw
              go_simp
              rfl
            try simp only [Act.put, List.setIfInBounds_toArray, List.set_cons_zero, List.set_cons_succ]
            refine wpAnyH_take (i := 19) (oi := { dst := some 51, op := Op.binOp BinOp.add 9 (Operand.tmp 43) (Operand.tmp 50) 9, type := _, pos := _, after := _, guard := _ }) (v := ?_) rfl (by kernel_rfl) (by kernel_rfl) (by kernel_rfl) (fun _ _ _ h => h) (Or.inl ⟨by rfl, ?_⟩) hHeld ?_
            rotate_left
            · intro wq hSw
              go_simp
              rfl
            try simp only [Act.put, List.setIfInBounds_toArray, List.set_cons_zero, List.set_cons_succ]
            refine wpAnyH_take (i := 20) (oi := { dst := some 52, op := Op.indexAddr 53 (Operand.tmp 32) (Operand.tmp 33), type := _, pos := _, after := _, guard := _ }) (v := ?_) rfl (by kernel_rfl) (by kernel_rfl) (by kernel_rfl) (fun _ _ _ h => h) (Or.inl ⟨by rfl, ?_⟩) hHeld ?_
            rotate_left
            · intro wq hSw
              go_simp
              rfl
            try simp only [Act.put, List.setIfInBounds_toArray, List.set_cons_zero, List.set_cons_succ]
            refine wpAnyH_ready (rs := [21]) (by kernel_rfl) (by simp) ?_
            refine AllReadyH.cons (o := { dst := none, op := Op.store 9 (Operand.tmp 52) (Operand.tmp 51), type := _, pos := _, after := _, guard := _ }) rfl (fun KK hKK => ?_) AllReadyH.nil
            have hKS := Lib.hid hKK
            clear hKK
            have f0 := RS.frozen hR.r k
            have c0 := RS.cell hR.r hk
            go_simp
            have hR := hR.put k (((nth l k).extract 0 p ++ ⟨#[UInt8.ofNat b]⟩) ++ (nth l k).extract (p + 1) (nth l k).size)
            refine hKS.out.out _ _ hR.b (fun hHeld => ?_)
            clear hKS KK f0 c0
            generalize World.setCell v9 ⟨g, k, none⟩ (.string (((nth l k).extract 0 p ++ ⟨#[UInt8.ofNat b]⟩) ++ (nth l k).extract (p + 1) (nth l k).size)) = v21 at *
            try simp only [Act.put, List.setIfInBounds_toArray, List.set_cons_zero, List.set_cons_succ]
            refine wpAnyH_done (by kernel_rfl) ?_ _
            go_wp2_with fail
            go_ret2
            refine ⟨⟨_, _, _, _, rfl, hR.r, hl.m, ?_⟩, hR.b⟩
            rw [fs_set, HS.out]
            rfl
    · rw [if_neg ht]
      have hfm := fun wr (hh : Tz wr A len cap l) => rframe_any A len cap l f wr hh.t hlen
      rw [decide_eq_false ht] at hfm
      clear hpg hp
      go_enter Try.func72, Try.ntmps72
      go_wp2_with (refine ls rfl rfl rfl hs ho ?_)
      refine (hf _).mono ?_
      rintro e w1 ⟨rfl, hx1⟩
      have hb1 := hb.trans (hx1.mono hb.size)
      have hl2 := hl1.below hx1
      clear hf ho hb hl1 hl hx1
      go_wp2_with fail
      refine (hfm _ hl2).mono ?_
      rintro e w2 ⟨rfl, rfl⟩
      go_wp2_with fail
      go_ret2
      exact ⟨MemIs.no, hb1⟩
end Mo
end Go.Proofs.Ytkbelpkmlmfedaa
