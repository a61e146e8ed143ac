/-
  THE WALKS of the document's Copy, Lay and Store.
-/
import Derived.Test.YtkbelpkmlmfedaaMu
namespace Go.Proofs.Ytkbelpkmlmfedaa
set_option linter.unusedVariables false
set_option maxRecDepth 100000
set_option linter.unusedSimpArgs false
open Go.RowKit
namespace Mo
open _root_.Go.Proofs.Ytkbelpkmlmfedaa.Nm _root_.Go.Proofs.Ytkbelpkmlmfedaa.Xe
def CopyIs (r : Option (List UInt8)) (e : Ending) : Prop := e = .returned (.tuple #[.string (ofB (r.getD [])), .bool r.isSome])
theorem CopyIs.no : CopyIs none (.returned (.tuple #[.string ⟨#[]⟩, .bool false])) := rfl
theorem copy_snoc {F : Mm.Fr} {s : Mm.Sp} {q k : Nat} {L : List UInt8} (h : Mm.copyB F s q k = some L) : Mm.copyB F s q (k + 1) = (Mm.byte F s (q + k)).map fun b => L ++ [b] := by
  rw [Mm.copy_add, h, Option.bind_some, Mm.copy_cons, Mm.copy_nil]
  cases Mm.byte F s (q + k) <;> rfl
theorem copy_stop {F : Mm.Fr} {s : Mm.Sp} {q k N : Nat} (hk : k < N) (h : Mm.byte F s (q + k) = none) : Mm.copyB F s q N = none := by
  rw [show N = k + ((N - k - 1) + 1) from by omega, Mm.copy_add]
  cases Mm.copyB F s q k with
  | none => rfl
  | some L => rw [Option.bind_some, Mm.copy_cons, h]; rfl
theorem of_app (L : List UInt8) (b : UInt8) : ofB L ++ ⟨#[b]⟩ = ofB (L ++ [b]) := by
  apply toL_inj
  rw [toL_app', toL_of, toL_of]
  rfl
set_option maxHeartbeats 4000000 in
theorem rcopy_any (A : Option Addr) (len cap : Nat) (l : List ByteArray) (s : Mm.Sp) (hs : SpOk s) (q : Nat) (n : Int) (w : World) (hl : Tz w A len cap l) (hq : q < 4294967296) (h0 : -9223372036854775808 ≤ n) (h1 : n ≤ 9223372036854775807) :
    Calls Try.prog 39 #[.slice A len cap, .agg (sc s), .int .u32 (q : Nat), .int .i64 n] w fun e w' => CopyIs (Mm.copyM (fs l) s q n) e ∧ Below w.heap.size w w' := by
  have hb := grow w (Obj.cells (sc s) 57)
  have ho := Own.new w 57 (sc s)
  have hl1 := hl.below hb
  by_cases c : 0 ≤ n ∧ q ≤ 2048 ∧ (q : Int) + n ≤ 2048
  · rw [Mm.copyM, if_pos c]
    obtain ⟨c1, c2, c3⟩ := c
    obtain ⟨N, rfl⟩ := Int.eq_ofNat_of_zero_le c1
    rw [Int.toNat_natCast]
    have d1 : ¬ (N : Int) < 0 := by omega
    have d2 : ¬ 2048 < (N : Int) := by omega
    have d3 : ¬ 2048 < (q : Int) + (N : Int) := by omega
    have d4 : ¬ 2048 < (q : Int) := by omega
    have hby := fun (k : Nat) (hk : k < N) wr (hh : Tz wr A len cap l) => byte_any A len cap l s hs (q + k) wr hh (by omega)
    unfold ByteIs at hby
    clear hl
    go_enter Try.func39, Try.ntmps39
    go_wp2_with fail
    go_loopw [10, 11, 12, 13] (fun o i _ _ wr => ∃ (k : Nat) (L : List UInt8), k ≤ N ∧ i = .int .i64 k ∧ o = .string (ofB L) ∧ Mm.copyB (fs l) s q k = some L ∧ Below (w.alloc (Obj.cells (sc s) 57)).heap.size (w.alloc (Obj.cells (sc s) 57)) wr) (fun _ i _ _ _ => N - (intOf i).toNat)
    case atStart => exact ⟨0, [], Nat.zero_le _, rfl, rfl, Mm.copy_nil _ _ _, Below.refl _ _⟩
    case round =>
      obtain ⟨k, L, hk, rfl, rfl, hL, hx⟩ := hrel
      have hbw := hb.trans (hx.mono hb.size)
      have ho1 : Own wr w.heap.size 57 (sc s) := (hx.block _ ho.lt).trans ho
      by_cases hlt : k < N
      · have hc := hby k hlt wr (hl1.below hx)
        have hlen : L.length = k := Mm.copy_len _ _ _ _ _ hL
        have HLn := Lib.hid hlen
        have HSn := Lib.hid (copy_snoc hL)
        have u3 : IntKind.u32.wrap ((q : Int) + (k : Int)) = (q : Int) + (k : Int) := by
          have := u32_id (q + k) (by omega)
          simpa using this
        simp only [Int.natCast_add] at hc
        clear hby hb ho hl1 hlen
        cases hbt : Mm.byte (fs l) s (q + k) with
        | none =>
          have HNO := Lib.hid (copy_stop hlt hbt)
          rw [hbt] at hc
          simp only [Option.getD_none, Option.isSome_none] at hc
          clear hL hx
          go_wp2_with (refine ls rfl rfl rfl hs ho1 ?_)
          refine hc.mono ?_
          rintro e w4 ⟨rfl, hx4⟩
          clear hc ho1
          go_wp2_with fail
          go_ret2
          exact ⟨by rw [HNO.out]; exact CopyIs.no, hbw.trans (hx4.mono hbw.size)⟩
        | some b =>
          rw [hbt] at hc
          simp only [Option.getD_some, Option.isSome_some] at hc
          go_wp2_with (refine ls rfl rfl rfl hs ho1 ?_)
          refine hc.mono ?_
          rintro e w4 ⟨rfl, hx4⟩
          have hxx := hx.trans (hx4.mono hx.size)
          have hcv := conv_new w4 (b.toNat : Nat)
          rw [show UInt8.ofNat (Int.toNat ((b.toNat : Nat) : Int)) = b from by rw [Int.toNat_natCast]; exact UInt8.ofNat_toNat] at hcv
          have HX := Lib.hid (hxx.trans ((grow w4 (Obj.cells #[.int .u8 (b.toNat : Nat)] 5)).mono hxx.size))
          have zz : (ofB L).size ≤ 2048 := by rw [of_size, HLn.out]; omega
          have y1 : ¬ 9223372036854775807 < (ofB L).size + 1 := by omega
          have HA := Lib.hid (of_app L b)
          clear hc ho1 hx hxx hx4 hbw hL u3
          go_wp2_with fail
          go_roundw
          case rel =>
            refine ⟨k + 1, L ++ [b], by omega, by go_num, by rw [HA.out], ?_, HX.out⟩
            rw [HSn.out, hbt]
            rfl
          case measure => simp [intOf]; omega
      · obtain rfl : k = N := by omega
        have HLL := Lib.hid hL
        clear hby ho ho1 hl1 hL
        go_wp2_with fail
        go_ret2
        exact ⟨by rw [HLL.out]; rfl, hbw⟩
  · rw [Mm.copyM, if_neg c]
    clear ho hl hl1
    by_cases d1 : n < 0
    · go_enter Try.func39, Try.ntmps39
      go_wp2_with fail
      go_ret2
      exact ⟨CopyIs.no, hb⟩
    · by_cases d2 : 2048 < n
      · go_enter Try.func39, Try.ntmps39
        go_wp2_with fail
        go_ret2
        exact ⟨CopyIs.no, hb⟩
      · have d3 : 2048 < (q : Int) + n := by omega
        have w1 : IntKind.i64.wrap ((q : Int) + n) = (q : Int) + n := IntWalk.i64_in _ (by omega)
        go_enter Try.func39, Try.ntmps39
        go_wp2_with fail
        go_ret2
        exact ⟨CopyIs.no, hb⟩
theorem lay_take {s : Mm.Sp} {F G : Mm.Fr} {q k : Nat} {d : List UInt8} (hk : k < d.length) (h : Mm.layB s F q (d.take k) = some G) : Mm.layB s F q (d.take (k + 1)) = Mm.setB G s (q + k) (d[k]'hk) := by
  have hl : (d.take k).length = k := by simp; omega
  rw [List.take_succ_eq_append_getElem hk, Mm.lay_add, h, Option.bind_some, Mm.lay_cons, hl]
  cases Mm.setB G s (q + k) (d[k]'hk) <;> rfl
theorem lay_stop {s : Mm.Sp} {F : Mm.Fr} {q k : Nat} {d : List UInt8} (h : Mm.layB s F q (d.take k) = none) : Mm.layB s F q d = none := by
  have e : d = d.take k ++ d.drop k := (List.take_append_drop k d).symm
  rw [e, Mm.lay_add, h]; rfl
theorem MemIs.some_ {B : Nat} {r : Option Mm.Fr} {w' : World} {A : Option Addr} {n c : Nat} {L : List ByteArray} (h : r = some (fs L)) (hr : RS w' B A n c L) (hn : n ≤ 100000) : MemIs B r (.returned (.tuple #[.slice A n c, .bool true])) w' :=
  ⟨A, n, c, L, by rw [h]; rfl, hr, hn, by rw [h]; rfl⟩
theorem RS.base {w : World} {B B' : Nat} {A : Option Addr} {n cap : Nat} {l : List ByteArray} (h : RS w B A n cap l) (hB : B' ≤ B) : RS w B' A n cap l := by
  refine ⟨h.1, h.2.1, ?_⟩
  rcases h.2.2 with h1 | ⟨g, c, cur, h1, h2, h3⟩
  · exact .inl h1
  · exact .inr ⟨g, c, cur, h1, Nat.le_trans hB h2, h3⟩
set_option maxHeartbeats 4000000 in
theorem rlay_any (A : Option Addr) (len cap : Nat) (l : List ByteArray) (s : Mm.Sp) (hs : SpOk s) (q : Nat) (d : ByteArray) (w : World) (hl : Tz w A len cap l) (hq : q < 4294967296) (hd : d.size ≤ 9223372036854775807) :
    Calls Try.prog 41 #[.slice A len cap, .agg (sc s), .int .u32 (q : Nat), .string d] w fun e w' => MemIs w.heap.size (Mm.layM (fs l) s q (toL d)) e w' ∧ Below w.heap.size w w' := by
  have hb := grow w (Obj.cells (sc s) 57)
  have ho := Own.new w 57 (sc s)
  have hl1 := hl.below hb
  by_cases c : q ≤ 2048 ∧ q + (toL d).length ≤ 2048
  · rw [Mm.layM, if_pos c]
    rw [toL_length] at c
    obtain ⟨c2, c3⟩ := c
    have d1 : ¬ 2048 < (d.size : Int) := by omega
    have d2 : ¬ 2048 < (q : Int) := by omega
    have d3 : ¬ 2048 < (q : Int) + (d.size : Int) := by omega
    have hr0 : RS ((w.alloc (Obj.cells (sc s) 57)).alloc (Obj.cells #[] 9)) (w.heap.size + 1) (some ⟨w.heap.size + 1, 0, none⟩) 0 0 [] := RS.empty (by have := Own.new (w.alloc (Obj.cells (sc s) 57)) 9 #[]; rwa [show (w.alloc (Obj.cells (sc s) 57)).heap.size = w.heap.size + 1 from by simp] at this) (Nat.le_refl _)
    have hl3 := hl1.below (grow (w.alloc (Obj.cells (sc s) 57)) (Obj.cells #[] 9))
    have ho3 := ho.alloc (Obj.cells #[] 9)
    have hb3 := hb.trans ((grow (w.alloc (Obj.cells (sc s) 57)) (Obj.cells #[] 9)).mono hb.size)
    have hsz : w.heap.size + 1 ≤ ((w.alloc (Obj.cells (sc s) 57)).alloc (Obj.cells #[] 9)).heap.size := by simp
    clear hl hl1 ho
    go_enter Try.func41, Try.ntmps41
    go_wp2_with (at_builtin; refine app_all rfl (.tmp 29) (.tmp 30) rfl (w.heap.size + 1) (w.heap.size + 1) 0 rfl hr0 _ _ _ l rfl hl3 hsz ?_; intro A' c' w2 hr hx2)
    have ho2 : Own w2 w.heap.size 57 (sc s) := (hx2.block _ (Nat.lt_succ_self _)).trans ho3
    have hb2 := hb3.trans (hx2.mono (Nat.le_succ _))
    have hm := hl3.m
    clear hx2 hb3 hl3 hr0 ho3 hsz hb
    go_wp2_with fail
    go_loopw [10, 11, 12, 13] (fun o i _ _ wr => ∃ (k : Nat) (A1 : Option Addr) (n1 c1 : Nat) (L : List ByteArray), k ≤ d.size ∧ i = .int .i64 k ∧ o = .slice A1 n1 c1 ∧ n1 ≤ 100000 ∧ RS wr (w.heap.size + 1) A1 n1 c1 L ∧ Mm.layB s (fs l) q ((toL d).take k) = some (fs L) ∧ Own wr w.heap.size 57 (sc s) ∧ Below w.heap.size w wr) (fun _ i _ _ _ => d.size - (intOf i).toNat)
    case atStart => exact ⟨0, A', len, c', l, Nat.zero_le _, rfl, rfl, hm, hr, by rw [List.take_zero]; exact Mm.lay_nil _ _ _, ho2, hb2⟩
    case round =>
      clear hr ho2 hb2
      obtain ⟨k, A1, n1, c1, L, hk, rfl, rfl, hn1, hr, hL, ho, hb⟩ := hrel
      by_cases hlt : k < d.size
      · have hkt : k < (toL d).length := by rw [toL_length]; exact hlt
        have HT := Lib.hid (lay_take hkt hL)
        have hdk : (d[k]'hlt).toNat = ((toL d)[k]'hkt).toNat := by
          congr 1
        have hb8 : (d[k]'hlt).toNat < 256 := (d[k]'hlt).toNat_lt
        have hset := fun wr (hh : Tz wr A1 n1 c1 L) => rset_any A1 n1 c1 L s hs (q + k) (d[k]'hlt).toNat wr hh (by omega) hb8
        have e8 : UInt8.ofNat (d[k]'hlt).toNat = (toL d)[k]'hkt := by rw [hdk, UInt8.ofNat_toNat]
        rw [e8] at hset
        have u3 : IntKind.u32.wrap ((q : Int) + (k : Int)) = (q : Int) + (k : Int) := by
          have := u32_id (q + k) (by omega)
          simpa using this
        have uk := u32_id k (by omega)
        have j1 : (k : Int) < (d.size : Int) := by omega
        simp only [Int.natCast_add] at hset
        clear e8 hdk hL
        have hR : Tz wr.drew A1 n1 c1 L ∧ Own wr.drew w.heap.size 57 (sc s) ∧ Below w.heap.size w wr.drew ∧ w.heap.size + 1 ≤ wr.drew.heap.size := ⟨(Tz.of hr hn1).dr ⟨1, rfl⟩, ho, hb.drew, ho.lt⟩
        clear ho hb hr
        go_wp2_with fail
        refine wp_region_held_drew (S := fun _ => True) (by kernel_rfl) trivial (fun hHeld => ?_)
        generalize wr.drew = W2 at *
        refine wpAnyH_take (i := 0) (oi := { dst := some 39, op := Op.move (Operand.tmp 10), type := _, pos := _, after := _, guard := _ }) (v := ?_) rfl (by kernel_rfl) (by kernel_rfl) (by kernel_rfl) (fun _ _ _ h => h) (Or.inl ⟨by rfl, ?_⟩) hHeld ?_
        rotate_left
        · intro wq hSw
          go_simp
          rfl
        try simp only [Act.put, List.setIfInBounds_toArray, List.set_cons_zero, List.set_cons_succ]
        refine wpAnyH_take (i := 2) (oi := { dst := some 41, op := Op.move (Operand.tmp 2), type := _, pos := _, after := _, guard := _ }) (v := ?_) rfl (by kernel_rfl) (by kernel_rfl) (by kernel_rfl) (fun _ _ _ h => h) (Or.inl ⟨by rfl, ?_⟩) hHeld ?_
        rotate_left
        · intro wq hSw
          go_simp
          rfl
        try simp only [Act.put, List.setIfInBounds_toArray, List.set_cons_zero, List.set_cons_succ]
        refine wpAnyH_take (i := 3) (oi := { dst := some 42, op := Op.move (Operand.tmp 11), type := _, pos := _, after := _, guard := _ }) (v := ?_) rfl (by kernel_rfl) (by kernel_rfl) (by kernel_rfl) (fun _ _ _ h => h) (Or.inl ⟨by rfl, ?_⟩) hHeld ?_
        rotate_left
        · intro wq hSw
          go_simp
          rfl
        try simp only [Act.put, List.setIfInBounds_toArray, List.set_cons_zero, List.set_cons_succ]
        refine wpAnyH_take (i := 4) (oi := { dst := some 43, op := Op.convert 3 23 (Operand.tmp 42), type := _, pos := _, after := _, guard := _ }) (v := ?_) rfl (by kernel_rfl) (by kernel_rfl) (by kernel_rfl) (fun _ _ _ h => h) (Or.inl ⟨by rfl, ?_⟩) hHeld ?_
        rotate_left
        · intro wq hSw
          go_simp
          rfl
        try simp only [Act.put, List.setIfInBounds_toArray, List.set_cons_zero, List.set_cons_succ]
        refine wpAnyH_take (i := 5) (oi := { dst := some 44, op := Op.binOp BinOp.add 23 (Operand.tmp 41) (Operand.tmp 43) 23, type := _, pos := _, after := _, guard := _ }) (v := ?_) rfl (by kernel_rfl) (by kernel_rfl) (by kernel_rfl) (fun _ _ _ h => h) (Or.inl ⟨by rfl, ?_⟩) hHeld ?_
        rotate_left
        · intro wq hSw
          go_simp
          rfl
        try simp only [Act.put, List.setIfInBounds_toArray, List.set_cons_zero, List.set_cons_succ]
        refine wpAnyH_take (i := 6) (oi := { dst := some 45, op := Op.move (Operand.tmp 3), type := _, pos := _, after := _, guard := _ }) (v := ?_) rfl (by kernel_rfl) (by kernel_rfl) (by kernel_rfl) (fun _ _ _ h => h) (Or.inl ⟨by rfl, ?_⟩) hHeld ?_
        rotate_left
        · intro wq hSw
          go_simp
          rfl
        try simp only [Act.put, List.setIfInBounds_toArray, List.set_cons_zero, List.set_cons_succ]
        refine wpAnyH_take (i := 7) (oi := { dst := some 46, op := Op.move (Operand.tmp 11), type := _, pos := _, after := _, guard := _ }) (v := ?_) rfl (by kernel_rfl) (by kernel_rfl) (by kernel_rfl) (fun _ _ _ h => h) (Or.inl ⟨by rfl, ?_⟩) hHeld ?_
        rotate_left
        · intro wq hSw
          go_simp
          rfl
        try simp only [Act.put, List.setIfInBounds_toArray, List.set_cons_zero, List.set_cons_succ]
        refine wpAnyH_take (i := 8) (oi := { dst := some 47, op := Op.index 9 (Operand.tmp 45) (Operand.tmp 46), type := _, pos := _, after := _, guard := _ }) (v := ?_) rfl (by kernel_rfl) (by kernel_rfl) (by kernel_rfl) (fun _ _ _ h => h) (Or.inl ⟨by rfl, ?_⟩) hHeld ?_
        rotate_left
        · intro wq hSw
          go_simp
          rfl
        try simp only [Act.put, List.setIfInBounds_toArray, List.set_cons_zero, List.set_cons_succ]
        refine wpAnyH_ready (rs := [1]) (by kernel_rfl) (by simp) ?_
        refine AllReadyH.cons (o := { dst := some 40, op := Op.load 57 (Operand.tmp 5), type := _, pos := _, after := _, guard := _ }) rfl (fun KK hKK => ?_) AllReadyH.nil
        have hKS := Lib.hid hKK
        clear hKK
        refine wp_load_row 57 _ rfl _ rfl 57 (sc s) (0, 0) _ hR.2.1 Try.underlying57 rfl (by rw [info57, sc_size hs]) ?_
        refine hKS.out.out _ _ trivial (fun hHeld => ?_)
        clear hKS KK
        try simp only [Act.put, List.setIfInBounds_toArray, List.set_cons_zero, List.set_cons_succ]
        refine wpAnyH_ready (rs := [9]) (by kernel_rfl) (by simp) ?_
        refine AllReadyH.cons (o := { dst := some 48, op := Op.call { callee := Callee.value (Operand.func 72), args := #[Operand.tmp 39, Operand.tmp 40, Operand.tmp 44, Operand.tmp 47], argTypes := #[53, 57, 23, 5] }, type := _, pos := _, after := _, guard := _ }) rfl (fun KK hKK => ?_) AllReadyH.nil
        have hKS := Lib.hid hKK
        clear hKK
        go_simp
        refine (hset _ hR.1).mono ?_
        rintro e w9 ⟨⟨A4, n4, c4, L4, rfl, hr4, hn4, hf4⟩, hx⟩
        go_wp2_with fail
        refine hKS.out.out _ _ trivial (fun hHeld => ?_)
        clear hKS KK
        try simp only [Act.put, List.setIfInBounds_toArray, List.set_cons_zero, List.set_cons_succ]
        refine wpAnyH_take (i := 10) (oi := { dst := some 38, op := Op.move (Operand.tmp 48), type := _, pos := _, after := _, guard := _ }) (v := ?_) rfl (by kernel_rfl) (by kernel_rfl) (by kernel_rfl) (fun _ _ _ h => h) (Or.inl ⟨by rfl, ?_⟩) hHeld ?_
        rotate_left
        · intro wq hSw
          go_simp
          rfl
        try simp only [Act.put, List.setIfInBounds_toArray, List.set_cons_zero, List.set_cons_succ]
        refine wpAnyH_take (i := 11) (oi := { dst := some 49, op := Op.extract (Operand.tmp 38) 0, type := _, pos := _, after := _, guard := _ }) (v := ?_) rfl (by kernel_rfl) (by kernel_rfl) (by kernel_rfl) (fun _ _ _ h => h) (Or.inl ⟨by rfl, ?_⟩) hHeld ?_
        rotate_left
        · intro wq hSw
          go_simp
          rfl
        try simp only [Act.put, List.setIfInBounds_toArray, List.set_cons_zero, List.set_cons_succ]
        refine wpAnyH_take (i := 12) (oi := { dst := some 50, op := Op.extract (Operand.tmp 38) 1, type := _, pos := _, after := _, guard := _ }) (v := ?_) rfl (by kernel_rfl) (by kernel_rfl) (by kernel_rfl) (fun _ _ _ h => h) (Or.inl ⟨by rfl, ?_⟩) hHeld ?_
        rotate_left
        · intro wq hSw
          go_simp
          rfl
        try simp only [Act.put, List.setIfInBounds_toArray, List.set_cons_zero, List.set_cons_succ]
        refine wpAnyH_take (i := 13) (oi := { dst := some 12, op := Op.assign (Operand.tmp 49), type := _, pos := _, after := _, guard := _ }) (v := ?_) rfl (by kernel_rfl) (by kernel_rfl) (by kernel_rfl) (fun _ _ _ h => h) (Or.inl ⟨by rfl, ?_⟩) hHeld ?_
        rotate_left
        · intro wq hSw
          go_simp
          rfl
        try simp only [Act.put, List.setIfInBounds_toArray, List.set_cons_zero, List.set_cons_succ]
        refine wpAnyH_take (i := 14) (oi := { dst := some 13, op := Op.assign (Operand.tmp 50), type := _, pos := _, after := _, guard := _ }) (v := ?_) rfl (by kernel_rfl) (by kernel_rfl) (by kernel_rfl) (fun _ _ _ h => h) (Or.inl ⟨by rfl, ?_⟩) hHeld ?_
        rotate_left
        · intro wq hSw
          go_simp
          rfl
        try simp only [Act.put, List.setIfInBounds_toArray, List.set_cons_zero, List.set_cons_succ]
        refine wpAnyH_done (by kernel_rfl) ?_ _
        obtain ⟨-, hO, hB, hS⟩ := hR
        have hO9 : Own w9 w.heap.size 57 (sc s) := (hx.block _ (Nat.lt_of_succ_le hS)).trans hO
        have hB9 := hB.trans (hx.mono hB.size)
        have hr9 : RS w9 (w.heap.size + 1) A4 n4 c4 L4 := RS.base hr4 hS
        clear hO hB hx hr4 hS hset hHeld
        cases hst : Mm.setB (fs L) s (q + k) ((toL d)[k]'hkt) with
        | none =>
          rw [hst] at hf4
          have HNO := Lib.hid (lay_stop (HT.out.trans hst))
          simp only [Option.isSome_none]
          clear hO9 hr9
          go_wp2_with fail
          go_ret2
          exact ⟨by rw [HNO.out]; exact MemIs.no, hB9⟩
        | some G =>
          rw [hst] at hf4
          simp only [Option.getD_some, Option.isSome_some] at hf4 ⊢
          have HB9 := Lib.hid hB9
          have HO9 := Lib.hid hO9
          have HR9 := Lib.hid hr9
          have HF4 := Lib.hid hf4
          have HST := Lib.hid hst
          clear hB9 hO9 hr9 hf4 hst
          go_wp2_with fail
          go_roundw
          case rel => exact ⟨k + 1, A4, n4, c4, L4, by omega, by go_num, rfl, hn4, HR9.out, by rw [HT.out, HST.out, HF4.out], HO9.out, HB9.out⟩
          case measure => simp [intOf]; omega
      · obtain rfl : k = d.size := by omega
        rw [show (toL d).take d.size = toL d from List.take_of_length_le (by rw [toL_length]; exact Nat.le_refl _)] at hL
        clear ho
        go_wp2_with fail
        go_ret2
        exact ⟨MemIs.some_ hL (RS.base hr (Nat.le_succ _)) hn1, hb⟩
  · rw [Mm.layM, if_neg c]
    rw [toL_length] at c
    clear ho hl hl1
    by_cases d1 : 2048 < (d.size : Int)
    · go_enter Try.func41, Try.ntmps41
      go_wp2_with fail
      go_ret2
      exact ⟨MemIs.no, hb⟩
    · by_cases d2 : 2048 < (q : Int)
      · go_enter Try.func41, Try.ntmps41
        go_wp2_with fail
        go_ret2
        exact ⟨MemIs.no, hb⟩
      · have d3 : 2048 < (q : Int) + (d.size : Int) := by omega
        have w1 : IntKind.i64.wrap ((q : Int) + (d.size : Int)) = (q : Int) + (d.size : Int) := IntWalk.i64_in _ (by omega)
        go_enter Try.func41, Try.ntmps41
        go_wp2_with fail
        go_ret2
        exact ⟨MemIs.no, hb⟩
end Mo
end Go.Proofs.Ytkbelpkmlmfedaa
