/-
  THE WALKS of what a loss of power makes of a drive: the code's.
-/
import Derived.Test.YtmolbliooaofbaaDf
import Derived.OrdersHeld
import Derived.Deep.RegionHeld
namespace Go.Proofs.Ytmolbliooaofbaa
set_option linter.unusedVariables false
set_option maxRecDepth 100000
set_option linter.unusedSimpArgs false
open Go.RowKit
namespace Dw
open _root_.Go.Proofs.Ytmolbliooaofbaa.Nm
open Dm (Wr wnth)
theorem crash_app (K : List Int) (P Q : List Wr) : ∀ (B : List ByteArray) (n : Nat), Dm.crashM B K n (P ++ Q) = Dm.crashM (Dm.crashM B K n P) K (n + P.length) Q := by
  induction P with
  | nil => intro B n; rfl
  | cons w P ih => intro B n; rw [List.cons_append, Dm.crashM, ih, Dm.crashM, List.length_cons, show n + 1 + P.length = n + (P.length + 1) from by omega]
theorem crash_step {B : List ByteArray} {K : List Int} {P : List Wr} {q : Nat} (h : q < P.length) : Dm.crashM B K 0 (P.take (q + 1)) = Dm.setI (Dm.crashM B K 0 (P.take q)) (wnth P q).1 (Dm.become (Dm.pickM K q) (nth (Dm.crashM B K 0 (P.take q)) (wnth P q).1.toNat) (wnth P q).2) := by
  rw [Dm.take_wnth h, crash_app, Nat.zero_add, List.length_take, Nat.min_eq_left (Nat.le_of_lt h)]
  rfl
theorem crash_size {d : Dm.Dr} (h : Dm.Ok d) (K : List Int) (q : Nat) {k : Nat} (hk : k < d.B.length) : (nth (Dm.crashM d.B K 0 (d.P.take q)) k).size = 128 := by
  refine Dm.crash_sizes K (d.P.take q) d.B 0 h.b (fun w hw => h.p w (List.mem_of_mem_take hw)) _ (Dm.nth_mem ?_)
  rw [Dm.crash_length]; exact hk
/-- numbers that are read -/
structure Iz (w : World) (A : Option Addr) (n : Nat) (K : List Int) : Prop where
  len : K.length = n
  c : 0 < n → ∃ b off, A = some ⟨b, off, none⟩ ∧ ∀ i, i < n → w.cell? ⟨b, off + i, none⟩ = some (.int .i64 (K.getD i 0))
  r : ∀ x ∈ K, -9223372036854775808 ≤ x ∧ x ≤ 9223372036854775807
  m : n ≤ 9223372036854775807
theorem Iz.below {a b : World} {A : Option Addr} {n : Nat} {K : List Int} (h : Iz a A n K) (k : Below a.heap.size a b) : Iz b A n K :=
  ⟨h.len, fun h0 => by
    obtain ⟨g, off, e, hc⟩ := h.c h0
    exact ⟨g, off, e, fun i hi => (k.cell (World.block_lt_of_cell? _ _ (hc i hi))).trans (hc i hi)⟩, h.r, h.m⟩
theorem getI {K : List Int} {i : Nat} (h : i < K.length) : K.getD i 0 ∈ K := by
  rw [List.getD_eq_getElem?_getD, List.getElem?_eq_getElem h]; exact List.getElem_mem h
theorem pick_at {K : List Int} {q : Nat} (h : q < K.length) : ((((K.getD q 0).tmod 3 + 3).tmod 3 : Int)) = (Dm.pickM K q : Nat) := by
  unfold Dm.pickM
  rw [if_pos h]
  have h1 := Int.tmod_lt_of_pos (K.getD q 0) (show (0 : Int) < 3 by decide)
  have h2 := Int.lt_tmod_of_pos (K.getD q 0) (show (0 : Int) < 3 by decide)
  have := Int.tmod_nonneg (a := (K.getD q 0).tmod 3 + 3) 3 (by omega)
  omega
theorem tmod3 (x : Int) : -2 ≤ x.tmod 3 ∧ x.tmod 3 ≤ 2 := by
  have h1 := Int.tmod_lt_of_pos x (show (0 : Int) < 3 by decide)
  have h2 := Int.lt_tmod_of_pos x (show (0 : Int) < 3 by decide)
  omega
/-- what becomes of a block, by three functions -/
def bc : Array Value := #[.func (.func 41) #[] #[], .func (.func 42) #[] #[], .func (.func 43) #[] #[]]
theorem info59 : (Try.prog.info? 59).map (·.size) = some 3 := by kernel_rfl
theorem bc_one : bc.all (·.oneCell') = true := by
  rw [Array.all_eq_true_iff_forall_mem]
  intro v hv
  simp [bc] at hv
  rcases hv with rfl | rfl | rfl <;> rfl
theorem sto59 {ops : Array Oper} {rest : List Oper} {o : Oper} {a : Act} {w : World} {Q : Exit → Act → World → Prop} {x y : Operand} {g : Nat} {c : Array Value}
    (hgd : o.guard = none) (ho : o.op = .store 59 x y) (hx : a.eval x = .pointer (some ⟨g, 0, none⟩)) (hy : a.eval y = .agg bc) (hg : g = w.heap.size) (hc : c.size = 3)
    (h : wpList Try.prog ops Q rest (a.put o.dst undef) (w.alloc (.cells bc 59))) : wpList Try.prog ops Q (o :: rest) a (w.alloc (.cells c 59)) := by
  subst hg
  exact wpList_store_row hgd 59 x y ho w.heap.size bc hx hy 59 c (Nm.Own.new w 59 c) info59 (by rw [hc]; rfl) bc_one (by rw [World.setRow_alloc_new]; exact h)
theorem bec_any (w : World) : Calls Try.prog 32 #[] w fun e w' => e = .returned (.agg bc) ∧ Below w.heap.size w w' := by
  go_enter Try.func32, Try.ntmps32
  go_wp2_with (refine sto59 rfl rfl rfl rfl rfl rfl ?_)
  go_wp2_with fail
  exact bodyPost_ret (results_cell_row rfl _ _ w.heap.size 59 bc (0, 0) _ rfl (Nm.Own.new w 59 bc) Try.underlying59 rfl info59) rfl ⟨rfl, grow w _⟩
theorem was_any (a b : ByteArray) (w : World) : Calls Try.prog 41 #[.string a, .string b] w fun e w' => e = .returned (.string (Dm.become 0 a b)) ∧ Dr w w' := by
  go_enter Try.func41, Try.ntmps41
  go_wp2_with fail
  go_ret
  exact ⟨rfl, Dr.refl _⟩
theorem now_any (a b : ByteArray) (w : World) : Calls Try.prog 42 #[.string a, .string b] w fun e w' => e = .returned (.string (Dm.become 1 a b)) ∧ Dr w w' := by
  go_enter Try.func42, Try.ntmps42
  go_wp2_with fail
  go_ret
  exact ⟨rfl, Dr.refl _⟩
set_option maxHeartbeats 1000000 in
theorem half_any (a b : ByteArray) (w : World) (ha : a.size = 128) (hb : b.size = 128) : Calls Try.prog 43 #[.string a, .string b] w fun e w' => e = .returned (.string (Dm.become 2 a b)) ∧ Dr w w' := by
  have HB := Lib.hid (show Dm.become 2 a b = b.extract 0 64 ++ a.extract 64 a.size from rfl)
  have i1 : (a.size : Int) = 128 := by omega
  have i2 : (b.size : Int) = 128 := by omega
  have z1 : (b.extract 0 64).size = 64 := by rw [ByteArray.size_extract]; omega
  have z2 : (a.extract 64 a.size).size = 64 := by rw [ByteArray.size_extract]; omega
  have z2' : (a.extract 64 128).size = 64 := by rw [ByteArray.size_extract]; omega
  have y : ¬ 9223372036854775807 < (b.extract 0 64).size + (a.extract 64 a.size).size := by omega
  have y' : ¬ 9223372036854775807 < (b.extract 0 64).size + (a.extract 64 128).size := by omega
  rw [ha] at HB
  go_enter Try.func43, Try.ntmps43
  go_wp2_with fail
  go_quiet (fail)
  go_wp2_with fail
  go_ret
  exact ⟨by rw [HB.out] <;> rfl, ⟨_, rfl⟩⟩
/-- what the turn reads: the answer's blocks, the write, the function -/
structure Rc (G5 B6 Bx g p n c1 k : Nat) (xs : ByteArray) (f : Value) (wq : World) : Prop where
  a : wq.cell? ⟨G5, 0, none⟩ = some (.slice (some ⟨g, 0, none⟩) n c1)
  b : wq.cell? ⟨Bx, 0, none⟩ = some (.int .i64 (k : Int))
  c : wq.cell? ⟨Bx, 1, none⟩ = some (.string xs)
  d : wq.cell? ⟨B6, p, none⟩ = some f
theorem Rc.dr {G5 B6 Bx g p n c1 k : Nat} {xs : ByteArray} {f : Value} {wq w' : World} (h : Rc G5 B6 Bx g p n c1 k xs f wq) (hd : Dr wq w') : Rc G5 B6 Bx g p n c1 k xs f w' := by
  obtain ⟨q, rfl⟩ := hd
  exact ⟨h.a, h.b, h.c, h.d⟩
theorem Rc.drew {G5 B6 Bx g p n c1 k : Nat} {xs : ByteArray} {f : Value} {wq : World} (h : Rc G5 B6 Bx g p n c1 k xs f wq) : Rc G5 B6 Bx g p n c1 k xs f wq.drew := h.dr ⟨1, rfl⟩
theorem Rc.st {G5 B6 Bx g p n c1 k : Nat} {xs : ByteArray} {f : Value} {wq w' : World} (h : Rc G5 B6 Bx g p n c1 k xs f wq) (hs : St g wq w') (n1 : G5 ≠ g) (n2 : B6 ≠ g) (n3 : Bx ≠ g) : Rc G5 B6 Bx g p n c1 k xs f w' :=
  ⟨(World.cell?_of_block (w := wq) (a := ⟨G5, 0, none⟩) (hs.block _ n1)).trans h.a, (World.cell?_of_block (w := wq) (a := ⟨Bx, 0, none⟩) (hs.block _ n3)).trans h.b,
   (World.cell?_of_block (w := wq) (a := ⟨Bx, 1, none⟩) (hs.block _ n3)).trans h.c, (World.cell?_of_block (w := wq) (a := ⟨B6, p, none⟩) (hs.block _ n2)).trans h.d⟩
theorem Own.dr {w w' : World} {g : Nat} {t : TypeId} {cs : Array Value} (h : Nm.Own w g t cs) (k : Dr w w') : Nm.Own w' g t cs := by
  obtain ⟨q, rfl⟩ := k; exact h
theorem B3.dr {w wr w1 : World} {cs ds es : Array Value} {G : Nat} (h : B3 w cs ds es G wr) (k : Dr wr w1) : B3 w cs ds es G w1 := ⟨⟨Own.dr h.t.o k, Own.dr h.t.q k, below_dr h.t.b k⟩, Own.dr h.g k, h.l⟩
set_option maxHeartbeats 4000000 in
theorem crash_any (A : Option Addr) (n c : Nat) (A' : Option Addr) (m c' : Nat) (d : Dm.Dr) (E : Option Addr) (e ec : Nat) (K : List Int) (w : World) (h : Dz w A n c A' m c' d) (hk : Iz w E e K) (hok : Dm.Ok d) :
    Calls Try.prog 20 #[.agg (dv A n c A' m c' d.left), .slice E e ec] w fun e w' => (∃ A1 c1, e = .returned (.agg (dv A1 n c1 none 0 0 (-1))) ∧ RS w' w.heap.size A1 n c1 (Dm.crashM d.B K 0 d.P)) ∧ Below w.heap.size w w' := by
  have ob := B2.new w (dv A n c A' m c' d.left) (dv none 0 0 none 0 0 0)
  have H0 := Lib.hid h
  have HK := Lib.hid hk
  have HO := Lib.hid hok
  have hn : d.B.length = n := h.b.t.1
  have hnm := h.b.m
  have hpn : d.P.length = m := h.p.len
  have hpm := h.p.m
  have hem := hk.m
  have hhas := fun i w => has_any A n c A' m c' d.left i w
  have sz1 : ((w.alloc (Obj.cells (dv A n c A' m c' d.left) 25)).alloc (Obj.cells (dv none 0 0 none 0 0 0) 25)).heap.size = w.heap.size + 2 := by simp
  generalize hL : d.left = L at *
  have h1 := H0.out.b.below ob.b
  have d0 := ob.o.cell 0
  simp only [List.getElem?_toArray, List.getElem?_cons_zero, List.getElem?_cons_succ] at d0
  clear h hk hok
  go_enter Try.func20, Try.ntmps20
  go_wp2_with fail
  refine (clone_any _ _ _ _ _ h1).mono ?_
  rintro e w2 ⟨⟨A1, c1, rfl, hr⟩, hx2⟩
  rw [sz1] at hr
  have ob2 := (ob.below hx2).below (grow w2 (Obj.cells (dv A1 n c1 none 0 0 (-1)) 25))
  have o3 := Nm.Own.new w2 25 (dv A1 n c1 none 0 0 (-1))
  have hr2 := hr.below (grow w2 (Obj.cells (dv A1 n c1 none 0 0 (-1)) 25))
  have ob3 : B3 w (dv A n c A' m c' L) (dv none 0 0 none 0 0 0) (dv A1 n c1 none 0 0 (-1)) w2.heap.size (w2.alloc (Obj.cells (dv A1 n c1 none 0 0 (-1)) 25)) := ⟨ob2, o3, by have := hx2.size; omega⟩
  clear ob h1 sz1 ob2 o3 hr d0
  go_wp2_with fail
  refine (bec_any _).mono ?_
  rintro e w3 ⟨rfl, hx3⟩
  have ob4 := (ob3.below hx3).below (grow w3 (Obj.cells bc 59))
  have hr4 := (hr2.below hx3).below (grow w3 (Obj.cells bc 59))
  have o4 := Nm.Own.new w3 59 bc
  have d1 := ob4.t.o.cell 1
  simp only [List.getElem?_toArray, List.getElem?_cons_zero, List.getElem?_cons_succ] at d1
  clear ob3 hr2 hx3 hx2
  generalize hG5 : w2.heap.size = G5 at *
  generalize hB6 : w3.heap.size = B6 at *
  go_wp2_with (refine sto59 rfl rfl rfl rfl (by first | exact hB6.symm | rfl) rfl ?_)
  go_wp2_with fail
  generalize w3.alloc (Obj.cells bc 59) = W3 at *
  clear d1
  go_loopw [7, 8, 9, 18] (fun _ _ _ i wr => ∃ q : Nat, q ≤ m ∧ i = .int .i64 q ∧ B3 w (dv A n c A' m c' L) (dv none 0 0 none 0 0 0) (dv A1 n c1 none 0 0 (-1)) G5 wr ∧ Nm.Own wr B6 59 bc ∧ RS wr (w.heap.size + 2) A1 n c1 (Dm.crashM d.B K 0 (d.P.take q))) (fun _ _ _ i _ => m - (intOf i).toNat)
  case atStart => exact ⟨0, Nat.zero_le _, rfl, ob4, o4, hr4⟩
  case round =>
    clear ob4 o4 hr4
    obtain ⟨q, hq, rfl, ob4, o4, hr4⟩ := hrel
    by_cases hlq : q < m
    · obtain ⟨b', off', rfl, hc⟩ := (H0.out.p.below ob4.t.b).c (by omega)
      obtain ⟨c1', c2'⟩ := hc q (by omega)
      have hkz := HK.out.below ob4.t.b
      have hlq' : (q : Int) < (m : Int) := by omega
      have HT := Lib.hid (crash_step (B := d.B) (K := K) (P := d.P) (q := q) (by omega))
      have hwm := HO.out.p (wnth d.P q) (Dm.wnth_mem (by omega))
      have gb := grow wr (Obj.cells #[.int .i64 (wnth d.P q).1, .string (wnth d.P q).2] 47)
      have ob5 := ob4.below gb
      have hr5 := hr4.below gb
      have o5 := o4.below gb
      have hkz5 := hkz.below gb
      have o47 := Nm.Own.new wr 47 #[.int .i64 (wnth d.P q).1, .string (wnth d.P q).2]
      have hso := fun k (hk : k < n) => crash_size HO.out K q (k := k) (by omega)
      clear hc ob4 hr4 o4 gb hkz
      generalize wnth d.P q = x at *
      obtain ⟨xi, xs⟩ := x
      dsimp only at *
      obtain ⟨⟨hx0, hx1⟩, hsx⟩ := hwm
      obtain ⟨k, rfl⟩ := Int.eq_ofNat_of_zero_le hx0
      rw [Int.toNat_natCast] at HT
      have hhas' := fun wr => hhas (k : Int) wr
      rw [decide_eq_true (show 0 ≤ (k : Int) ∧ (k : Int) < (n : Int) from by omega)] at hhas'
      have hk : k < n := by omega
      have hk' : (k : Int) < (n : Int) := by omega
      replace hso := hso k hk
      generalize hold : nth (Dm.crashM d.B K 0 (d.P.take q)) k = old at *
      obtain ⟨p, hp⟩ : ∃ p, Dm.pickM K q = p := ⟨_, rfl⟩
      have hp3 := Dm.pick_lt K q
      rw [hp] at hp3
      have hpk : ∀ h : q < e, IntKind.i64.wrap ((K.getD q 0).tmod 3 + 3) = (K.getD q 0).tmod 3 + 3 ∧ ((K.getD q 0).tmod 3 + 3).tmod 3 = (p : Int) := fun h => by
        refine ⟨IntWalk.i64_in _ ?_, by rw [← hp]; exact pick_at (by rw [HK.out.len]; exact h)⟩
        have := tmod3 (K.getD q 0)
        omega
      have hpz : ¬ q < e → p = 0 := fun h => by
        rw [← hp]
        unfold Dm.pickM
        rw [if_neg (by rw [HK.out.len]; exact h)]
      rw [hp] at HT
      clear hx0 hx1 hhas hp
      have HPK := Lib.hid hpk
      have HPZ := Lib.hid hpz
      clear hpk hpz
      by_cases hqe : q < e
      · obtain ⟨wp1, wp2⟩ := HPK.out hqe
        obtain ⟨b2, off2, rfl, hc2⟩ := hkz5.c (by omega)
        have ce := hc2 q hqe
        have hqe' : (q : Int) < (e : Int) := by omega
        clear hc2
        generalize K.getD q 0 = x at *
        obtain rfl | rfl | rfl : p = 0 ∨ p = 1 ∨ p = 2 := by omega
        · have wp2 : (x.tmod 3 + 3).tmod 3 = (0 : Int) := wp2
          go_wp2_with (refine ld25 rfl rfl rfl ob5.t.o ?_)
          refine (hhas' _).mono ?_
          rintro e1 w6 ⟨rfl, hx6⟩
          have ob6 := ob5.below hx6
          have hR := hr5.below hx6
          have o48 := o47.below hx6
          have o59 := o5.below hx6
          have e0 := o48.cell 0
          have e1 := o48.cell 1
          simp only [List.getElem?_toArray, List.getElem?_cons_zero, List.getElem?_cons_succ] at e0 e1
          clear ob5 hr5 o47 hhas' hx6 o5
          obtain ⟨g, rfl, hg1, hg2⟩ : ∃ g, A1 = some ⟨g, 0, none⟩ ∧ w.heap.size + 2 ≤ g ∧ g < w6.heap.size := by
            rcases hR.form with ⟨_, h0, _⟩ | h0
            · omega
            · exact h0
          have d5 : Nm.Own w6 B6 59 bc := o59
          have hS : Rc G5 B6 wr.heap.size g 0 n c1 k xs (.func (.func 41) #[] #[]) w6 := ⟨ob6.g.cell 0, o48.cell 0, o48.cell 1, o59.cell 0⟩
          go_wp2_with fail
          refine wp_region_held_drew (S := Rc G5 B6 wr.heap.size g 0 n c1 k xs (.func (.func 41) #[] #[])) (by kernel_rfl) hS.drew (fun hHeld => ?_)
          replace hR := RS.dr hR (Dr.refl w6).drew
          replace ob6 := ob6.dr (Dr.refl w6).drew
          replace o59 := Own.dr o59 (Dr.refl w6).drew
          replace o48 := Own.dr o48 (Dr.refl w6).drew
          clear hS d5
          generalize w6.drew = W6 at *
          refine wpAnyH_take (i := 0) (oi := { dst := some 38, op := Op.fieldAddr 25 (Operand.tmp 5) 0, type := _, pos := _, after := _, guard := _ }) (v := ?_) rfl (by kernel_rfl) (by kernel_rfl) (by kernel_rfl) (fun _ _ _ h => h) (Or.inl ⟨by rfl, ?_⟩) hHeld ?_
          rotate_left
          · intro wq hSw
            go_simp
            rfl
          try simp only [Act.put, List.setIfInBounds_toArray, List.set_cons_zero, List.set_cons_succ]
          refine wpAnyH_take (i := 1) (oi := { dst := some 39, op := Op.load 22 (Operand.tmp 38), type := _, pos := _, after := _, guard := _ }) (v := ?_) rfl (by kernel_rfl) (by kernel_rfl) (by kernel_rfl) (fun _ _ _ h => h) (Or.inl ⟨by rfl, ?_⟩) hHeld ?_
          rotate_left
          · intro wq hSw
            obtain ⟨r1, r2, r3, r4⟩ := hSw
            go_simp
            rfl
          try simp only [Act.put, List.setIfInBounds_toArray, List.set_cons_zero, List.set_cons_succ]
          refine wpAnyH_take (i := 2) (oi := { dst := some 40, op := Op.fieldAddr 47 (Operand.tmp 8) 0, type := _, pos := _, after := _, guard := _ }) (v := ?_) rfl (by kernel_rfl) (by kernel_rfl) (by kernel_rfl) (fun _ _ _ h => h) (Or.inl ⟨by rfl, ?_⟩) hHeld ?_
          rotate_left
          · intro wq hSw
            go_simp
            rfl
          try simp only [Act.put, List.setIfInBounds_toArray, List.set_cons_zero, List.set_cons_succ]
          refine wpAnyH_take (i := 3) (oi := { dst := some 41, op := Op.load 3 (Operand.tmp 40), type := _, pos := _, after := _, guard := _ }) (v := ?_) rfl (by kernel_rfl) (by kernel_rfl) (by kernel_rfl) (fun _ _ _ h => h) (Or.inl ⟨by rfl, ?_⟩) hHeld ?_
          rotate_left
          · intro wq hSw
            obtain ⟨r1, r2, r3, r4⟩ := hSw
            go_simp
            rfl
          try simp only [Act.put, List.setIfInBounds_toArray, List.set_cons_zero, List.set_cons_succ]
          refine wpAnyH_take (i := 4) (oi := { dst := some 42, op := Op.move (Operand.tmp 9), type := _, pos := _, after := _, guard := _ }) (v := ?_) rfl (by kernel_rfl) (by kernel_rfl) (by kernel_rfl) (fun _ _ _ h => h) (Or.inl ⟨by rfl, ?_⟩) hHeld ?_
          rotate_left
          · intro wq hSw
            go_simp
            rfl
          try simp only [Act.put, List.setIfInBounds_toArray, List.set_cons_zero, List.set_cons_succ]
          refine wpAnyH_take (i := 5) (oi := { dst := some 43, op := Op.indexAddr 59 (Operand.tmp 6) (Operand.tmp 42), type := _, pos := _, after := _, guard := _ }) (v := ?_) rfl (by kernel_rfl) (by kernel_rfl) (by kernel_rfl) (fun _ _ _ h => h) (Or.inl ⟨by rfl, ?_⟩) hHeld ?_
          rotate_left
          · intro wq hSw
            go_simp
            rfl
          try simp only [Act.put, List.setIfInBounds_toArray, List.set_cons_zero, List.set_cons_succ]
          refine wpAnyH_take (i := 6) (oi := { dst := some 44, op := Op.fieldAddr 58 (Operand.tmp 43) 0, type := _, pos := _, after := _, guard := _ }) (v := ?_) rfl (by kernel_rfl) (by kernel_rfl) (by kernel_rfl) (fun _ _ _ h => h) (Or.inl ⟨by rfl, ?_⟩) hHeld ?_
          rotate_left
          · intro wq hSw
            go_simp
            rfl
          try simp only [Act.put, List.setIfInBounds_toArray, List.set_cons_zero, List.set_cons_succ]
          refine wpAnyH_take (i := 7) (oi := { dst := some 45, op := Op.load 56 (Operand.tmp 44), type := _, pos := _, after := _, guard := _ }) (v := ?_) rfl (by kernel_rfl) (by kernel_rfl) (by kernel_rfl) (fun _ _ _ h => h) (Or.inl ⟨by rfl, ?_⟩) hHeld ?_
          rotate_left
          · intro wq hSw
            obtain ⟨r1, r2, r3, r4⟩ := hSw
            go_simp
            rfl
          try simp only [Act.put, List.setIfInBounds_toArray, List.set_cons_zero, List.set_cons_succ]
          refine wpAnyH_take (i := 8) (oi := { dst := some 46, op := Op.fieldAddr 25 (Operand.tmp 5) 0, type := _, pos := _, after := _, guard := _ }) (v := ?_) rfl (by kernel_rfl) (by kernel_rfl) (by kernel_rfl) (fun _ _ _ h => h) (Or.inl ⟨by rfl, ?_⟩) hHeld ?_
          rotate_left
          · intro wq hSw
            go_simp
            rfl
          try simp only [Act.put, List.setIfInBounds_toArray, List.set_cons_zero, List.set_cons_succ]
          refine wpAnyH_take (i := 9) (oi := { dst := some 47, op := Op.load 22 (Operand.tmp 46), type := _, pos := _, after := _, guard := _ }) (v := ?_) rfl (by kernel_rfl) (by kernel_rfl) (by kernel_rfl) (fun _ _ _ h => h) (Or.inl ⟨by rfl, ?_⟩) hHeld ?_
          rotate_left
          · intro wq hSw
            obtain ⟨r1, r2, r3, r4⟩ := hSw
            go_simp
            rfl
          try simp only [Act.put, List.setIfInBounds_toArray, List.set_cons_zero, List.set_cons_succ]
          refine wpAnyH_take (i := 10) (oi := { dst := some 48, op := Op.fieldAddr 47 (Operand.tmp 8) 0, type := _, pos := _, after := _, guard := _ }) (v := ?_) rfl (by kernel_rfl) (by kernel_rfl) (by kernel_rfl) (fun _ _ _ h => h) (Or.inl ⟨by rfl, ?_⟩) hHeld ?_
          rotate_left
          · intro wq hSw
            go_simp
            rfl
          try simp only [Act.put, List.setIfInBounds_toArray, List.set_cons_zero, List.set_cons_succ]
          refine wpAnyH_take (i := 11) (oi := { dst := some 49, op := Op.load 3 (Operand.tmp 48), type := _, pos := _, after := _, guard := _ }) (v := ?_) rfl (by kernel_rfl) (by kernel_rfl) (by kernel_rfl) (fun _ _ _ h => h) (Or.inl ⟨by rfl, ?_⟩) hHeld ?_
          rotate_left
          · intro wq hSw
            obtain ⟨r1, r2, r3, r4⟩ := hSw
            go_simp
            rfl
          try simp only [Act.put, List.setIfInBounds_toArray, List.set_cons_zero, List.set_cons_succ]
          refine wpAnyH_take (i := 12) (oi := { dst := some 50, op := Op.indexAddr 22 (Operand.tmp 47) (Operand.tmp 49), type := _, pos := _, after := _, guard := _ }) (v := ?_) rfl (by kernel_rfl) (by kernel_rfl) (by kernel_rfl) (fun _ _ _ h => h) (Or.inl ⟨by rfl, ?_⟩) hHeld ?_
          rotate_left
          · intro wq hSw
            go_simp
            rfl
          try simp only [Act.put, List.setIfInBounds_toArray, List.set_cons_zero, List.set_cons_succ]
          refine wpAnyH_take (i := 14) (oi := { dst := some 52, op := Op.fieldAddr 47 (Operand.tmp 8) 1, type := _, pos := _, after := _, guard := _ }) (v := ?_) rfl (by kernel_rfl) (by kernel_rfl) (by kernel_rfl) (fun _ _ _ h => h) (Or.inl ⟨by rfl, ?_⟩) hHeld ?_
          rotate_left
          · intro wq hSw
            go_simp
            rfl
          try simp only [Act.put, List.setIfInBounds_toArray, List.set_cons_zero, List.set_cons_succ]
          refine wpAnyH_take (i := 15) (oi := { dst := some 53, op := Op.load 9 (Operand.tmp 52), type := _, pos := _, after := _, guard := _ }) (v := ?_) rfl (by kernel_rfl) (by kernel_rfl) (by kernel_rfl) (fun _ _ _ h => h) (Or.inl ⟨by rfl, ?_⟩) hHeld ?_
          rotate_left
          · intro wq hSw
            obtain ⟨r1, r2, r3, r4⟩ := hSw
            go_simp
            rfl
          try simp only [Act.put, List.setIfInBounds_toArray, List.set_cons_zero, List.set_cons_succ]
          refine wpAnyH_ready (rs := [13]) (by kernel_rfl) (by simp) ?_
          refine AllReadyH.cons (o := { dst := some 51, op := Op.load 9 (Operand.tmp 50), type := _, pos := _, after := _, guard := _ }) rfl (fun KK hKK => ?_) AllReadyH.nil
          have hKS := Lib.hid hKK
          clear hKK
          have ck := RS.cell hR hk
          rw [hold] at ck
          go_simp
          refine hKS.out.out _ _ hHeld (fun hHeld => ?_)
          clear hKS KK ck
          try simp only [Act.put, List.setIfInBounds_toArray, List.set_cons_zero, List.set_cons_succ]
          refine wpAnyH_ready (rs := [16]) (by kernel_rfl) (by simp) ?_
          refine AllReadyH.cons (o := { dst := some 54, op := Op.call { callee := Callee.value (Operand.tmp 45), args := #[Operand.tmp 51, Operand.tmp 53], argTypes := #[9, 9] }, type := _, pos := _, after := _, guard := _ }) rfl (fun KK hKK => ?_) AllReadyH.nil
          have hKS := Lib.hid hKK
          clear hKK
          go_simp
          refine (was_any _ _ _).mono ?_
          rintro e w16 ⟨rfl, hx⟩
          go_wp2_with fail
          replace hR := RS.dr hR hx
          replace ob6 := ob6.dr hx
          replace o59 := Own.dr o59 hx
          replace o48 := Own.dr o48 hx
          refine hKS.out.out _ _ (hHeld.dr hx) (fun hHeld => ?_)
          clear hKS KK hx
          try simp only [Act.put, List.setIfInBounds_toArray, List.set_cons_zero, List.set_cons_succ]
          refine wpAnyH_take (i := 17) (oi := { dst := some 55, op := Op.indexAddr 22 (Operand.tmp 39) (Operand.tmp 41), type := _, pos := _, after := _, guard := _ }) (v := ?_) rfl (by kernel_rfl) (by kernel_rfl) (by kernel_rfl) (fun _ _ _ h => h) (Or.inl ⟨by rfl, ?_⟩) hHeld ?_
          rotate_left
          · intro wq hSw
            go_simp
            rfl
          try simp only [Act.put, List.setIfInBounds_toArray, List.set_cons_zero, List.set_cons_succ]
          refine wpAnyH_ready (rs := [18]) (by kernel_rfl) (by simp) ?_
          refine AllReadyH.cons (o := { dst := none, op := Op.store 9 (Operand.tmp 55) (Operand.tmp 54), type := _, pos := _, after := _, guard := _ }) rfl (fun KK hKK => ?_) AllReadyH.nil
          have hKS := Lib.hid hKK
          clear hKK
          have f0 := RS.frozen hR k
          have c0 := RS.cell hR hk
          go_simp
          have s7 := St.cellOf w16 g k (.string (Dm.become 0 old xs))
          have hR2 := RS.put hR k (Dm.become 0 old xs)
          have n1 : G5 ≠ g := fun e => RS.ne hR ob6.g (by decide) (by rw [e]; rfl)
          have n2 : B6 ≠ g := fun e => RS.ne hR o59 (by decide) (by rw [e]; rfl)
          have n3 : wr.heap.size ≠ g := fun e => RS.ne hR o48 (by decide) (by rw [e]; rfl)
          have ob7 := ob6.st s7 hg1 (fun e => n1 e.symm)
          have o7 := s7.own o59 n2
          refine hKS.out.out _ _ (hHeld.st s7 n1 n2 n3) (fun hHeld => ?_)
          clear hKS KK f0 c0 s7 hR ob6 o59 o48 n1 n2 n3
          generalize World.setCell w16 ⟨g, k, none⟩ (.string (Dm.become 0 old xs)) = W18 at *
          try simp only [Act.put, List.setIfInBounds_toArray, List.set_cons_zero, List.set_cons_succ]
          refine wpAnyH_done (by kernel_rfl) ?_ _
          go_wp2_with fail
          go_roundw
          case rel => exact ⟨q + 1, by omega, by go_num, ob7, o7, by rw [HT.out]; exact hR2⟩
          case measure => simp [intOf]; omega
        · have wp2 : (x.tmod 3 + 3).tmod 3 = (1 : Int) := wp2
          go_wp2_with (refine ld25 rfl rfl rfl ob5.t.o ?_)
          refine (hhas' _).mono ?_
          rintro e1 w6 ⟨rfl, hx6⟩
          have ob6 := ob5.below hx6
          have hR := hr5.below hx6
          have o48 := o47.below hx6
          have o59 := o5.below hx6
          have e0 := o48.cell 0
          have e1 := o48.cell 1
          simp only [List.getElem?_toArray, List.getElem?_cons_zero, List.getElem?_cons_succ] at e0 e1
          clear ob5 hr5 o47 hhas' hx6 o5
          obtain ⟨g, rfl, hg1, hg2⟩ : ∃ g, A1 = some ⟨g, 0, none⟩ ∧ w.heap.size + 2 ≤ g ∧ g < w6.heap.size := by
            rcases hR.form with ⟨_, h0, _⟩ | h0
            · omega
            · exact h0
          have d5 : Nm.Own w6 B6 59 bc := o59
          have hS : Rc G5 B6 wr.heap.size g 1 n c1 k xs (.func (.func 42) #[] #[]) w6 := ⟨ob6.g.cell 0, o48.cell 0, o48.cell 1, o59.cell 1⟩
          go_wp2_with fail
          refine wp_region_held_drew (S := Rc G5 B6 wr.heap.size g 1 n c1 k xs (.func (.func 42) #[] #[])) (by kernel_rfl) hS.drew (fun hHeld => ?_)
          replace hR := RS.dr hR (Dr.refl w6).drew
          replace ob6 := ob6.dr (Dr.refl w6).drew
          replace o59 := Own.dr o59 (Dr.refl w6).drew
          replace o48 := Own.dr o48 (Dr.refl w6).drew
          clear hS d5
          generalize w6.drew = W6 at *
          refine wpAnyH_take (i := 0) (oi := { dst := some 38, op := Op.fieldAddr 25 (Operand.tmp 5) 0, type := _, pos := _, after := _, guard := _ }) (v := ?_) rfl (by kernel_rfl) (by kernel_rfl) (by kernel_rfl) (fun _ _ _ h => h) (Or.inl ⟨by rfl, ?_⟩) hHeld ?_
          rotate_left
          · intro wq hSw
            go_simp
            rfl
          try simp only [Act.put, List.setIfInBounds_toArray, List.set_cons_zero, List.set_cons_succ]
          refine wpAnyH_take (i := 1) (oi := { dst := some 39, op := Op.load 22 (Operand.tmp 38), type := _, pos := _, after := _, guard := _ }) (v := ?_) rfl (by kernel_rfl) (by kernel_rfl) (by kernel_rfl) (fun _ _ _ h => h) (Or.inl ⟨by rfl, ?_⟩) hHeld ?_
          rotate_left
          · intro wq hSw
            obtain ⟨r1, r2, r3, r4⟩ := hSw
            go_simp
            rfl
          try simp only [Act.put, List.setIfInBounds_toArray, List.set_cons_zero, List.set_cons_succ]
          refine wpAnyH_take (i := 2) (oi := { dst := some 40, op := Op.fieldAddr 47 (Operand.tmp 8) 0, type := _, pos := _, after := _, guard := _ }) (v := ?_) rfl (by kernel_rfl) (by kernel_rfl) (by kernel_rfl) (fun _ _ _ h => h) (Or.inl ⟨by rfl, ?_⟩) hHeld ?_
          rotate_left
          · intro wq hSw
            go_simp
            rfl
          try simp only [Act.put, List.setIfInBounds_toArray, List.set_cons_zero, List.set_cons_succ]
          refine wpAnyH_take (i := 3) (oi := { dst := some 41, op := Op.load 3 (Operand.tmp 40), type := _, pos := _, after := _, guard := _ }) (v := ?_) rfl (by kernel_rfl) (by kernel_rfl) (by kernel_rfl) (fun _ _ _ h => h) (Or.inl ⟨by rfl, ?_⟩) hHeld ?_
          rotate_left
          · intro wq hSw
            obtain ⟨r1, r2, r3, r4⟩ := hSw
            go_simp
            rfl
          try simp only [Act.put, List.setIfInBounds_toArray, List.set_cons_zero, List.set_cons_succ]
          refine wpAnyH_take (i := 4) (oi := { dst := some 42, op := Op.move (Operand.tmp 9), type := _, pos := _, after := _, guard := _ }) (v := ?_) rfl (by kernel_rfl) (by kernel_rfl) (by kernel_rfl) (fun _ _ _ h => h) (Or.inl ⟨by rfl, ?_⟩) hHeld ?_
          rotate_left
          · intro wq hSw
            go_simp
            rfl
          try simp only [Act.put, List.setIfInBounds_toArray, List.set_cons_zero, List.set_cons_succ]
          refine wpAnyH_take (i := 5) (oi := { dst := some 43, op := Op.indexAddr 59 (Operand.tmp 6) (Operand.tmp 42), type := _, pos := _, after := _, guard := _ }) (v := ?_) rfl (by kernel_rfl) (by kernel_rfl) (by kernel_rfl) (fun _ _ _ h => h) (Or.inl ⟨by rfl, ?_⟩) hHeld ?_
          rotate_left
          · intro wq hSw
            go_simp
            rfl
          try simp only [Act.put, List.setIfInBounds_toArray, List.set_cons_zero, List.set_cons_succ]
          refine wpAnyH_take (i := 6) (oi := { dst := some 44, op := Op.fieldAddr 58 (Operand.tmp 43) 0, type := _, pos := _, after := _, guard := _ }) (v := ?_) rfl (by kernel_rfl) (by kernel_rfl) (by kernel_rfl) (fun _ _ _ h => h) (Or.inl ⟨by rfl, ?_⟩) hHeld ?_
          rotate_left
          · intro wq hSw
            go_simp
            rfl
          try simp only [Act.put, List.setIfInBounds_toArray, List.set_cons_zero, List.set_cons_succ]
          refine wpAnyH_take (i := 7) (oi := { dst := some 45, op := Op.load 56 (Operand.tmp 44), type := _, pos := _, after := _, guard := _ }) (v := ?_) rfl (by kernel_rfl) (by kernel_rfl) (by kernel_rfl) (fun _ _ _ h => h) (Or.inl ⟨by rfl, ?_⟩) hHeld ?_
          rotate_left
          · intro wq hSw
            obtain ⟨r1, r2, r3, r4⟩ := hSw
            go_simp
            rfl
          try simp only [Act.put, List.setIfInBounds_toArray, List.set_cons_zero, List.set_cons_succ]
          refine wpAnyH_take (i := 8) (oi := { dst := some 46, op := Op.fieldAddr 25 (Operand.tmp 5) 0, type := _, pos := _, after := _, guard := _ }) (v := ?_) rfl (by kernel_rfl) (by kernel_rfl) (by kernel_rfl) (fun _ _ _ h => h) (Or.inl ⟨by rfl, ?_⟩) hHeld ?_
          rotate_left
          · intro wq hSw
            go_simp
            rfl
          try simp only [Act.put, List.setIfInBounds_toArray, List.set_cons_zero, List.set_cons_succ]
          refine wpAnyH_take (i := 9) (oi := { dst := some 47, op := Op.load 22 (Operand.tmp 46), type := _, pos := _, after := _, guard := _ }) (v := ?_) rfl (by kernel_rfl) (by kernel_rfl) (by kernel_rfl) (fun _ _ _ h => h) (Or.inl ⟨by rfl, ?_⟩) hHeld ?_
          rotate_left
          · intro wq hSw
            obtain ⟨r1, r2, r3, r4⟩ := hSw
            go_simp
            rfl
          try simp only [Act.put, List.setIfInBounds_toArray, List.set_cons_zero, List.set_cons_succ]
          refine wpAnyH_take (i := 10) (oi := { dst := some 48, op := Op.fieldAddr 47 (Operand.tmp 8) 0, type := _, pos := _, after := _, guard := _ }) (v := ?_) rfl (by kernel_rfl) (by kernel_rfl) (by kernel_rfl) (fun _ _ _ h => h) (Or.inl ⟨by rfl, ?_⟩) hHeld ?_
          rotate_left
          · intro wq hSw
            go_simp
            rfl
          try simp only [Act.put, List.setIfInBounds_toArray, List.set_cons_zero, List.set_cons_succ]
          refine wpAnyH_take (i := 11) (oi := { dst := some 49, op := Op.load 3 (Operand.tmp 48), type := _, pos := _, after := _, guard := _ }) (v := ?_) rfl (by kernel_rfl) (by kernel_rfl) (by kernel_rfl) (fun _ _ _ h => h) (Or.inl ⟨by rfl, ?_⟩) hHeld ?_
          rotate_left
          · intro wq hSw
            obtain ⟨r1, r2, r3, r4⟩ := hSw
            go_simp
            rfl
          try simp only [Act.put, List.setIfInBounds_toArray, List.set_cons_zero, List.set_cons_succ]
          refine wpAnyH_take (i := 12) (oi := { dst := some 50, op := Op.indexAddr 22 (Operand.tmp 47) (Operand.tmp 49), type := _, pos := _, after := _, guard := _ }) (v := ?_) rfl (by kernel_rfl) (by kernel_rfl) (by kernel_rfl) (fun _ _ _ h => h) (Or.inl ⟨by rfl, ?_⟩) hHeld ?_
          rotate_left
          · intro wq hSw
            go_simp
            rfl
          try simp only [Act.put, List.setIfInBounds_toArray, List.set_cons_zero, List.set_cons_succ]
          refine wpAnyH_take (i := 14) (oi := { dst := some 52, op := Op.fieldAddr 47 (Operand.tmp 8) 1, type := _, pos := _, after := _, guard := _ }) (v := ?_) rfl (by kernel_rfl) (by kernel_rfl) (by kernel_rfl) (fun _ _ _ h => h) (Or.inl ⟨by rfl, ?_⟩) hHeld ?_
          rotate_left
          · intro wq hSw
            go_simp
            rfl
          try simp only [Act.put, List.setIfInBounds_toArray, List.set_cons_zero, List.set_cons_succ]
          refine wpAnyH_take (i := 15) (oi := { dst := some 53, op := Op.load 9 (Operand.tmp 52), type := _, pos := _, after := _, guard := _ }) (v := ?_) rfl (by kernel_rfl) (by kernel_rfl) (by kernel_rfl) (fun _ _ _ h => h) (Or.inl ⟨by rfl, ?_⟩) hHeld ?_
          rotate_left
          · intro wq hSw
            obtain ⟨r1, r2, r3, r4⟩ := hSw
            go_simp
            rfl
          try simp only [Act.put, List.setIfInBounds_toArray, List.set_cons_zero, List.set_cons_succ]
          refine wpAnyH_ready (rs := [13]) (by kernel_rfl) (by simp) ?_
          refine AllReadyH.cons (o := { dst := some 51, op := Op.load 9 (Operand.tmp 50), type := _, pos := _, after := _, guard := _ }) rfl (fun KK hKK => ?_) AllReadyH.nil
          have hKS := Lib.hid hKK
          clear hKK
          have ck := RS.cell hR hk
          rw [hold] at ck
          go_simp
          refine hKS.out.out _ _ hHeld (fun hHeld => ?_)
          clear hKS KK ck
          try simp only [Act.put, List.setIfInBounds_toArray, List.set_cons_zero, List.set_cons_succ]
          refine wpAnyH_ready (rs := [16]) (by kernel_rfl) (by simp) ?_
          refine AllReadyH.cons (o := { dst := some 54, op := Op.call { callee := Callee.value (Operand.tmp 45), args := #[Operand.tmp 51, Operand.tmp 53], argTypes := #[9, 9] }, type := _, pos := _, after := _, guard := _ }) rfl (fun KK hKK => ?_) AllReadyH.nil
          have hKS := Lib.hid hKK
          clear hKK
          go_simp
          refine (now_any _ _ _).mono ?_
          rintro e w16 ⟨rfl, hx⟩
          go_wp2_with fail
          replace hR := RS.dr hR hx
          replace ob6 := ob6.dr hx
          replace o59 := Own.dr o59 hx
          replace o48 := Own.dr o48 hx
          refine hKS.out.out _ _ (hHeld.dr hx) (fun hHeld => ?_)
          clear hKS KK hx
          try simp only [Act.put, List.setIfInBounds_toArray, List.set_cons_zero, List.set_cons_succ]
          refine wpAnyH_take (i := 17) (oi := { dst := some 55, op := Op.indexAddr 22 (Operand.tmp 39) (Operand.tmp 41), type := _, pos := _, after := _, guard := _ }) (v := ?_) rfl (by kernel_rfl) (by kernel_rfl) (by kernel_rfl) (fun _ _ _ h => h) (Or.inl ⟨by rfl, ?_⟩) hHeld ?_
          rotate_left
          · intro wq hSw
            go_simp
            rfl
          try simp only [Act.put, List.setIfInBounds_toArray, List.set_cons_zero, List.set_cons_succ]
          refine wpAnyH_ready (rs := [18]) (by kernel_rfl) (by simp) ?_
          refine AllReadyH.cons (o := { dst := none, op := Op.store 9 (Operand.tmp 55) (Operand.tmp 54), type := _, pos := _, after := _, guard := _ }) rfl (fun KK hKK => ?_) AllReadyH.nil
          have hKS := Lib.hid hKK
          clear hKK
          have f0 := RS.frozen hR k
          have c0 := RS.cell hR hk
          go_simp
          have s7 := St.cellOf w16 g k (.string (Dm.become 1 old xs))
          have hR2 := RS.put hR k (Dm.become 1 old xs)
          have n1 : G5 ≠ g := fun e => RS.ne hR ob6.g (by decide) (by rw [e]; rfl)
          have n2 : B6 ≠ g := fun e => RS.ne hR o59 (by decide) (by rw [e]; rfl)
          have n3 : wr.heap.size ≠ g := fun e => RS.ne hR o48 (by decide) (by rw [e]; rfl)
          have ob7 := ob6.st s7 hg1 (fun e => n1 e.symm)
          have o7 := s7.own o59 n2
          refine hKS.out.out _ _ (hHeld.st s7 n1 n2 n3) (fun hHeld => ?_)
          clear hKS KK f0 c0 s7 hR ob6 o59 o48 n1 n2 n3
          generalize World.setCell w16 ⟨g, k, none⟩ (.string (Dm.become 1 old xs)) = W18 at *
          try simp only [Act.put, List.setIfInBounds_toArray, List.set_cons_zero, List.set_cons_succ]
          refine wpAnyH_done (by kernel_rfl) ?_ _
          go_wp2_with fail
          go_roundw
          case rel => exact ⟨q + 1, by omega, by go_num, ob7, o7, by rw [HT.out]; exact hR2⟩
          case measure => simp [intOf]; omega
        · have wp2 : (x.tmod 3 + 3).tmod 3 = (2 : Int) := wp2
          go_wp2_with (refine ld25 rfl rfl rfl ob5.t.o ?_)
          refine (hhas' _).mono ?_
          rintro e1 w6 ⟨rfl, hx6⟩
          have ob6 := ob5.below hx6
          have hR := hr5.below hx6
          have o48 := o47.below hx6
          have o59 := o5.below hx6
          have e0 := o48.cell 0
          have e1 := o48.cell 1
          simp only [List.getElem?_toArray, List.getElem?_cons_zero, List.getElem?_cons_succ] at e0 e1
          clear ob5 hr5 o47 hhas' hx6 o5
          obtain ⟨g, rfl, hg1, hg2⟩ : ∃ g, A1 = some ⟨g, 0, none⟩ ∧ w.heap.size + 2 ≤ g ∧ g < w6.heap.size := by
            rcases hR.form with ⟨_, h0, _⟩ | h0
            · omega
            · exact h0
          have d5 : Nm.Own w6 B6 59 bc := o59
          have hS : Rc G5 B6 wr.heap.size g 2 n c1 k xs (.func (.func 43) #[] #[]) w6 := ⟨ob6.g.cell 0, o48.cell 0, o48.cell 1, o59.cell 2⟩
          go_wp2_with fail
          refine wp_region_held_drew (S := Rc G5 B6 wr.heap.size g 2 n c1 k xs (.func (.func 43) #[] #[])) (by kernel_rfl) hS.drew (fun hHeld => ?_)
          replace hR := RS.dr hR (Dr.refl w6).drew
          replace ob6 := ob6.dr (Dr.refl w6).drew
          replace o59 := Own.dr o59 (Dr.refl w6).drew
          replace o48 := Own.dr o48 (Dr.refl w6).drew
          clear hS d5
          generalize w6.drew = W6 at *
          refine wpAnyH_take (i := 0) (oi := { dst := some 38, op := Op.fieldAddr 25 (Operand.tmp 5) 0, type := _, pos := _, after := _, guard := _ }) (v := ?_) rfl (by kernel_rfl) (by kernel_rfl) (by kernel_rfl) (fun _ _ _ h => h) (Or.inl ⟨by rfl, ?_⟩) hHeld ?_
          rotate_left
          · intro wq hSw
            go_simp
            rfl
          try simp only [Act.put, List.setIfInBounds_toArray, List.set_cons_zero, List.set_cons_succ]
          refine wpAnyH_take (i := 1) (oi := { dst := some 39, op := Op.load 22 (Operand.tmp 38), type := _, pos := _, after := _, guard := _ }) (v := ?_) rfl (by kernel_rfl) (by kernel_rfl) (by kernel_rfl) (fun _ _ _ h => h) (Or.inl ⟨by rfl, ?_⟩) hHeld ?_
          rotate_left
          · intro wq hSw
            obtain ⟨r1, r2, r3, r4⟩ := hSw
            go_simp
            rfl
          try simp only [Act.put, List.setIfInBounds_toArray, List.set_cons_zero, List.set_cons_succ]
          refine wpAnyH_take (i := 2) (oi := { dst := some 40, op := Op.fieldAddr 47 (Operand.tmp 8) 0, type := _, pos := _, after := _, guard := _ }) (v := ?_) rfl (by kernel_rfl) (by kernel_rfl) (by kernel_rfl) (fun _ _ _ h => h) (Or.inl ⟨by rfl, ?_⟩) hHeld ?_
          rotate_left
          · intro wq hSw
            go_simp
            rfl
          try simp only [Act.put, List.setIfInBounds_toArray, List.set_cons_zero, List.set_cons_succ]
          refine wpAnyH_take (i := 3) (oi := { dst := some 41, op := Op.load 3 (Operand.tmp 40), type := _, pos := _, after := _, guard := _ }) (v := ?_) rfl (by kernel_rfl) (by kernel_rfl) (by kernel_rfl) (fun _ _ _ h => h) (Or.inl ⟨by rfl, ?_⟩) hHeld ?_
          rotate_left
          · intro wq hSw
            obtain ⟨r1, r2, r3, r4⟩ := hSw
            go_simp
            rfl
          try simp only [Act.put, List.setIfInBounds_toArray, List.set_cons_zero, List.set_cons_succ]
          refine wpAnyH_take (i := 4) (oi := { dst := some 42, op := Op.move (Operand.tmp 9), type := _, pos := _, after := _, guard := _ }) (v := ?_) rfl (by kernel_rfl) (by kernel_rfl) (by kernel_rfl) (fun _ _ _ h => h) (Or.inl ⟨by rfl, ?_⟩) hHeld ?_
          rotate_left
          · intro wq hSw
            go_simp
            rfl
          try simp only [Act.put, List.setIfInBounds_toArray, List.set_cons_zero, List.set_cons_succ]
          refine wpAnyH_take (i := 5) (oi := { dst := some 43, op := Op.indexAddr 59 (Operand.tmp 6) (Operand.tmp 42), type := _, pos := _, after := _, guard := _ }) (v := ?_) rfl (by kernel_rfl) (by kernel_rfl) (by kernel_rfl) (fun _ _ _ h => h) (Or.inl ⟨by rfl, ?_⟩) hHeld ?_
          rotate_left
          · intro wq hSw
            go_simp
            rfl
          try simp only [Act.put, List.setIfInBounds_toArray, List.set_cons_zero, List.set_cons_succ]
          refine wpAnyH_take (i := 6) (oi := { dst := some 44, op := Op.fieldAddr 58 (Operand.tmp 43) 0, type := _, pos := _, after := _, guard := _ }) (v := ?_) rfl (by kernel_rfl) (by kernel_rfl) (by kernel_rfl) (fun _ _ _ h => h) (Or.inl ⟨by rfl, ?_⟩) hHeld ?_
          rotate_left
          · intro wq hSw
            go_simp
            rfl
          try simp only [Act.put, List.setIfInBounds_toArray, List.set_cons_zero, List.set_cons_succ]
          refine wpAnyH_take (i := 7) (oi := { dst := some 45, op := Op.load 56 (Operand.tmp 44), type := _, pos := _, after := _, guard := _ }) (v := ?_) rfl (by kernel_rfl) (by kernel_rfl) (by kernel_rfl) (fun _ _ _ h => h) (Or.inl ⟨by rfl, ?_⟩) hHeld ?_
          rotate_left
          · intro wq hSw
            obtain ⟨r1, r2, r3, r4⟩ := hSw
            go_simp
            rfl
          try simp only [Act.put, List.setIfInBounds_toArray, List.set_cons_zero, List.set_cons_succ]
          refine wpAnyH_take (i := 8) (oi := { dst := some 46, op := Op.fieldAddr 25 (Operand.tmp 5) 0, type := _, pos := _, after := _, guard := _ }) (v := ?_) rfl (by kernel_rfl) (by kernel_rfl) (by kernel_rfl) (fun _ _ _ h => h) (Or.inl ⟨by rfl, ?_⟩) hHeld ?_
          rotate_left
          · intro wq hSw
            go_simp
            rfl
          try simp only [Act.put, List.setIfInBounds_toArray, List.set_cons_zero, List.set_cons_succ]
          refine wpAnyH_take (i := 9) (oi := { dst := some 47, op := Op.load 22 (Operand.tmp 46), type := _, pos := _, after := _, guard := _ }) (v := ?_) rfl (by kernel_rfl) (by kernel_rfl) (by kernel_rfl) (fun _ _ _ h => h) (Or.inl ⟨by rfl, ?_⟩) hHeld ?_
          rotate_left
          · intro wq hSw
            obtain ⟨r1, r2, r3, r4⟩ := hSw
            go_simp
            rfl
          try simp only [Act.put, List.setIfInBounds_toArray, List.set_cons_zero, List.set_cons_succ]
          refine wpAnyH_take (i := 10) (oi := { dst := some 48, op := Op.fieldAddr 47 (Operand.tmp 8) 0, type := _, pos := _, after := _, guard := _ }) (v := ?_) rfl (by kernel_rfl) (by kernel_rfl) (by kernel_rfl) (fun _ _ _ h => h) (Or.inl ⟨by rfl, ?_⟩) hHeld ?_
          rotate_left
          · intro wq hSw
            go_simp
            rfl
          try simp only [Act.put, List.setIfInBounds_toArray, List.set_cons_zero, List.set_cons_succ]
          refine wpAnyH_take (i := 11) (oi := { dst := some 49, op := Op.load 3 (Operand.tmp 48), type := _, pos := _, after := _, guard := _ }) (v := ?_) rfl (by kernel_rfl) (by kernel_rfl) (by kernel_rfl) (fun _ _ _ h => h) (Or.inl ⟨by rfl, ?_⟩) hHeld ?_
          rotate_left
          · intro wq hSw
            obtain ⟨r1, r2, r3, r4⟩ := hSw
            go_simp
            rfl
          try simp only [Act.put, List.setIfInBounds_toArray, List.set_cons_zero, List.set_cons_succ]
          refine wpAnyH_take (i := 12) (oi := { dst := some 50, op := Op.indexAddr 22 (Operand.tmp 47) (Operand.tmp 49), type := _, pos := _, after := _, guard := _ }) (v := ?_) rfl (by kernel_rfl) (by kernel_rfl) (by kernel_rfl) (fun _ _ _ h => h) (Or.inl ⟨by rfl, ?_⟩) hHeld ?_
          rotate_left
          · intro wq hSw
            go_simp
            rfl
          try simp only [Act.put, List.setIfInBounds_toArray, List.set_cons_zero, List.set_cons_succ]
          refine wpAnyH_take (i := 14) (oi := { dst := some 52, op := Op.fieldAddr 47 (Operand.tmp 8) 1, type := _, pos := _, after := _, guard := _ }) (v := ?_) rfl (by kernel_rfl) (by kernel_rfl) (by kernel_rfl) (fun _ _ _ h => h) (Or.inl ⟨by rfl, ?_⟩) hHeld ?_
          rotate_left
          · intro wq hSw
            go_simp
            rfl
          try simp only [Act.put, List.setIfInBounds_toArray, List.set_cons_zero, List.set_cons_succ]
          refine wpAnyH_take (i := 15) (oi := { dst := some 53, op := Op.load 9 (Operand.tmp 52), type := _, pos := _, after := _, guard := _ }) (v := ?_) rfl (by kernel_rfl) (by kernel_rfl) (by kernel_rfl) (fun _ _ _ h => h) (Or.inl ⟨by rfl, ?_⟩) hHeld ?_
          rotate_left
          · intro wq hSw
            obtain ⟨r1, r2, r3, r4⟩ := hSw
            go_simp
            rfl
          try simp only [Act.put, List.setIfInBounds_toArray, List.set_cons_zero, List.set_cons_succ]
          refine wpAnyH_ready (rs := [13]) (by kernel_rfl) (by simp) ?_
          refine AllReadyH.cons (o := { dst := some 51, op := Op.load 9 (Operand.tmp 50), type := _, pos := _, after := _, guard := _ }) rfl (fun KK hKK => ?_) AllReadyH.nil
          have hKS := Lib.hid hKK
          clear hKK
          have ck := RS.cell hR hk
          rw [hold] at ck
          go_simp
          refine hKS.out.out _ _ hHeld (fun hHeld => ?_)
          clear hKS KK ck
          try simp only [Act.put, List.setIfInBounds_toArray, List.set_cons_zero, List.set_cons_succ]
          refine wpAnyH_ready (rs := [16]) (by kernel_rfl) (by simp) ?_
          refine AllReadyH.cons (o := { dst := some 54, op := Op.call { callee := Callee.value (Operand.tmp 45), args := #[Operand.tmp 51, Operand.tmp 53], argTypes := #[9, 9] }, type := _, pos := _, after := _, guard := _ }) rfl (fun KK hKK => ?_) AllReadyH.nil
          have hKS := Lib.hid hKK
          clear hKK
          go_simp
          refine (half_any _ _ _ hso hsx).mono ?_
          rintro e w16 ⟨rfl, hx⟩
          go_wp2_with fail
          replace hR := RS.dr hR hx
          replace ob6 := ob6.dr hx
          replace o59 := Own.dr o59 hx
          replace o48 := Own.dr o48 hx
          refine hKS.out.out _ _ (hHeld.dr hx) (fun hHeld => ?_)
          clear hKS KK hx
          try simp only [Act.put, List.setIfInBounds_toArray, List.set_cons_zero, List.set_cons_succ]
          refine wpAnyH_take (i := 17) (oi := { dst := some 55, op := Op.indexAddr 22 (Operand.tmp 39) (Operand.tmp 41), type := _, pos := _, after := _, guard := _ }) (v := ?_) rfl (by kernel_rfl) (by kernel_rfl) (by kernel_rfl) (fun _ _ _ h => h) (Or.inl ⟨by rfl, ?_⟩) hHeld ?_
          rotate_left
          · intro wq hSw
            go_simp
            rfl
          try simp only [Act.put, List.setIfInBounds_toArray, List.set_cons_zero, List.set_cons_succ]
          refine wpAnyH_ready (rs := [18]) (by kernel_rfl) (by simp) ?_
          refine AllReadyH.cons (o := { dst := none, op := Op.store 9 (Operand.tmp 55) (Operand.tmp 54), type := _, pos := _, after := _, guard := _ }) rfl (fun KK hKK => ?_) AllReadyH.nil
          have hKS := Lib.hid hKK
          clear hKK
          have f0 := RS.frozen hR k
          have c0 := RS.cell hR hk
          go_simp
          have s7 := St.cellOf w16 g k (.string (Dm.become 2 old xs))
          have hR2 := RS.put hR k (Dm.become 2 old xs)
          have n1 : G5 ≠ g := fun e => RS.ne hR ob6.g (by decide) (by rw [e]; rfl)
          have n2 : B6 ≠ g := fun e => RS.ne hR o59 (by decide) (by rw [e]; rfl)
          have n3 : wr.heap.size ≠ g := fun e => RS.ne hR o48 (by decide) (by rw [e]; rfl)
          have ob7 := ob6.st s7 hg1 (fun e => n1 e.symm)
          have o7 := s7.own o59 n2
          refine hKS.out.out _ _ (hHeld.st s7 n1 n2 n3) (fun hHeld => ?_)
          clear hKS KK f0 c0 s7 hR ob6 o59 o48 n1 n2 n3
          generalize World.setCell w16 ⟨g, k, none⟩ (.string (Dm.become 2 old xs)) = W18 at *
          try simp only [Act.put, List.setIfInBounds_toArray, List.set_cons_zero, List.set_cons_succ]
          refine wpAnyH_done (by kernel_rfl) ?_ _
          go_wp2_with fail
          go_roundw
          case rel => exact ⟨q + 1, by omega, by go_num, ob7, o7, by rw [HT.out]; exact hR2⟩
          case measure => simp [intOf]; omega
      · obtain rfl := HPZ.out hqe
        have hqe' : ¬ (q : Int) < (e : Int) := by omega
        go_wp2_with (refine ld25 rfl rfl rfl ob5.t.o ?_)
        refine (hhas' _).mono ?_
        rintro e1 w6 ⟨rfl, hx6⟩
        have ob6 := ob5.below hx6
        have hR := hr5.below hx6
        have o48 := o47.below hx6
        have o59 := o5.below hx6
        have e0 := o48.cell 0
        have e1 := o48.cell 1
        simp only [List.getElem?_toArray, List.getElem?_cons_zero, List.getElem?_cons_succ] at e0 e1
        clear ob5 hr5 o47 hhas' hx6 o5
        obtain ⟨g, rfl, hg1, hg2⟩ : ∃ g, A1 = some ⟨g, 0, none⟩ ∧ w.heap.size + 2 ≤ g ∧ g < w6.heap.size := by
          rcases hR.form with ⟨_, h0, _⟩ | h0
          · omega
          · exact h0
        have d5 : Nm.Own w6 B6 59 bc := o59
        have hS : Rc G5 B6 wr.heap.size g 0 n c1 k xs (.func (.func 41) #[] #[]) w6 := ⟨ob6.g.cell 0, o48.cell 0, o48.cell 1, o59.cell 0⟩
        go_wp2_with fail
        refine wp_region_held_drew (S := Rc G5 B6 wr.heap.size g 0 n c1 k xs (.func (.func 41) #[] #[])) (by kernel_rfl) hS.drew (fun hHeld => ?_)
        replace hR := RS.dr hR (Dr.refl w6).drew
        replace ob6 := ob6.dr (Dr.refl w6).drew
        replace o59 := Own.dr o59 (Dr.refl w6).drew
        replace o48 := Own.dr o48 (Dr.refl w6).drew
        clear hS d5
        generalize w6.drew = W6 at *
        refine wpAnyH_take (i := 0) (oi := { dst := some 38, op := Op.fieldAddr 25 (Operand.tmp 5) 0, type := _, pos := _, after := _, guard := _ }) (v := ?_) rfl (by kernel_rfl) (by kernel_rfl) (by kernel_rfl) (fun _ _ _ h => h) (Or.inl ⟨by rfl, ?_⟩) hHeld ?_
        rotate_left
        · intro wq hSw
          go_simp
          rfl
        try simp only [Act.put, List.setIfInBounds_toArray, List.set_cons_zero, List.set_cons_succ]
        refine wpAnyH_take (i := 1) (oi := { dst := some 39, op := Op.load 22 (Operand.tmp 38), type := _, pos := _, after := _, guard := _ }) (v := ?_) rfl (by kernel_rfl) (by kernel_rfl) (by kernel_rfl) (fun _ _ _ h => h) (Or.inl ⟨by rfl, ?_⟩) hHeld ?_
        rotate_left
        · intro wq hSw
          obtain ⟨r1, r2, r3, r4⟩ := hSw
          go_simp
          rfl
        try simp only [Act.put, List.setIfInBounds_toArray, List.set_cons_zero, List.set_cons_succ]
        refine wpAnyH_take (i := 2) (oi := { dst := some 40, op := Op.fieldAddr 47 (Operand.tmp 8) 0, type := _, pos := _, after := _, guard := _ }) (v := ?_) rfl (by kernel_rfl) (by kernel_rfl) (by kernel_rfl) (fun _ _ _ h => h) (Or.inl ⟨by rfl, ?_⟩) hHeld ?_
        rotate_left
        · intro wq hSw
          go_simp
          rfl
        try simp only [Act.put, List.setIfInBounds_toArray, List.set_cons_zero, List.set_cons_succ]
        refine wpAnyH_take (i := 3) (oi := { dst := some 41, op := Op.load 3 (Operand.tmp 40), type := _, pos := _, after := _, guard := _ }) (v := ?_) rfl (by kernel_rfl) (by kernel_rfl) (by kernel_rfl) (fun _ _ _ h => h) (Or.inl ⟨by rfl, ?_⟩) hHeld ?_
        rotate_left
        · intro wq hSw
          obtain ⟨r1, r2, r3, r4⟩ := hSw
          go_simp
          rfl
        try simp only [Act.put, List.setIfInBounds_toArray, List.set_cons_zero, List.set_cons_succ]
        refine wpAnyH_take (i := 4) (oi := { dst := some 42, op := Op.move (Operand.tmp 9), type := _, pos := _, after := _, guard := _ }) (v := ?_) rfl (by kernel_rfl) (by kernel_rfl) (by kernel_rfl) (fun _ _ _ h => h) (Or.inl ⟨by rfl, ?_⟩) hHeld ?_
        rotate_left
        · intro wq hSw
          go_simp
          rfl
        try simp only [Act.put, List.setIfInBounds_toArray, List.set_cons_zero, List.set_cons_succ]
        refine wpAnyH_take (i := 5) (oi := { dst := some 43, op := Op.indexAddr 59 (Operand.tmp 6) (Operand.tmp 42), type := _, pos := _, after := _, guard := _ }) (v := ?_) rfl (by kernel_rfl) (by kernel_rfl) (by kernel_rfl) (fun _ _ _ h => h) (Or.inl ⟨by rfl, ?_⟩) hHeld ?_
        rotate_left
        · intro wq hSw
          go_simp
          rfl
        try simp only [Act.put, List.setIfInBounds_toArray, List.set_cons_zero, List.set_cons_succ]
        refine wpAnyH_take (i := 6) (oi := { dst := some 44, op := Op.fieldAddr 58 (Operand.tmp 43) 0, type := _, pos := _, after := _, guard := _ }) (v := ?_) rfl (by kernel_rfl) (by kernel_rfl) (by kernel_rfl) (fun _ _ _ h => h) (Or.inl ⟨by rfl, ?_⟩) hHeld ?_
        rotate_left
        · intro wq hSw
          go_simp
          rfl
        try simp only [Act.put, List.setIfInBounds_toArray, List.set_cons_zero, List.set_cons_succ]
        refine wpAnyH_take (i := 7) (oi := { dst := some 45, op := Op.load 56 (Operand.tmp 44), type := _, pos := _, after := _, guard := _ }) (v := ?_) rfl (by kernel_rfl) (by kernel_rfl) (by kernel_rfl) (fun _ _ _ h => h) (Or.inl ⟨by rfl, ?_⟩) hHeld ?_
        rotate_left
        · intro wq hSw
          obtain ⟨r1, r2, r3, r4⟩ := hSw
          go_simp
          rfl
        try simp only [Act.put, List.setIfInBounds_toArray, List.set_cons_zero, List.set_cons_succ]
        refine wpAnyH_take (i := 8) (oi := { dst := some 46, op := Op.fieldAddr 25 (Operand.tmp 5) 0, type := _, pos := _, after := _, guard := _ }) (v := ?_) rfl (by kernel_rfl) (by kernel_rfl) (by kernel_rfl) (fun _ _ _ h => h) (Or.inl ⟨by rfl, ?_⟩) hHeld ?_
        rotate_left
        · intro wq hSw
          go_simp
          rfl
        try simp only [Act.put, List.setIfInBounds_toArray, List.set_cons_zero, List.set_cons_succ]
        refine wpAnyH_take (i := 9) (oi := { dst := some 47, op := Op.load 22 (Operand.tmp 46), type := _, pos := _, after := _, guard := _ }) (v := ?_) rfl (by kernel_rfl) (by kernel_rfl) (by kernel_rfl) (fun _ _ _ h => h) (Or.inl ⟨by rfl, ?_⟩) hHeld ?_
        rotate_left
        · intro wq hSw
          obtain ⟨r1, r2, r3, r4⟩ := hSw
          go_simp
          rfl
        try simp only [Act.put, List.setIfInBounds_toArray, List.set_cons_zero, List.set_cons_succ]
        refine wpAnyH_take (i := 10) (oi := { dst := some 48, op := Op.fieldAddr 47 (Operand.tmp 8) 0, type := _, pos := _, after := _, guard := _ }) (v := ?_) rfl (by kernel_rfl) (by kernel_rfl) (by kernel_rfl) (fun _ _ _ h => h) (Or.inl ⟨by rfl, ?_⟩) hHeld ?_
        rotate_left
        · intro wq hSw
          go_simp
          rfl
        try simp only [Act.put, List.setIfInBounds_toArray, List.set_cons_zero, List.set_cons_succ]
        refine wpAnyH_take (i := 11) (oi := { dst := some 49, op := Op.load 3 (Operand.tmp 48), type := _, pos := _, after := _, guard := _ }) (v := ?_) rfl (by kernel_rfl) (by kernel_rfl) (by kernel_rfl) (fun _ _ _ h => h) (Or.inl ⟨by rfl, ?_⟩) hHeld ?_
        rotate_left
        · intro wq hSw
          obtain ⟨r1, r2, r3, r4⟩ := hSw
          go_simp
          rfl
        try simp only [Act.put, List.setIfInBounds_toArray, List.set_cons_zero, List.set_cons_succ]
        refine wpAnyH_take (i := 12) (oi := { dst := some 50, op := Op.indexAddr 22 (Operand.tmp 47) (Operand.tmp 49), type := _, pos := _, after := _, guard := _ }) (v := ?_) rfl (by kernel_rfl) (by kernel_rfl) (by kernel_rfl) (fun _ _ _ h => h) (Or.inl ⟨by rfl, ?_⟩) hHeld ?_
        rotate_left
        · intro wq hSw
          go_simp
          rfl
        try simp only [Act.put, List.setIfInBounds_toArray, List.set_cons_zero, List.set_cons_succ]
        refine wpAnyH_take (i := 14) (oi := { dst := some 52, op := Op.fieldAddr 47 (Operand.tmp 8) 1, type := _, pos := _, after := _, guard := _ }) (v := ?_) rfl (by kernel_rfl) (by kernel_rfl) (by kernel_rfl) (fun _ _ _ h => h) (Or.inl ⟨by rfl, ?_⟩) hHeld ?_
        rotate_left
        · intro wq hSw
          go_simp
          rfl
        try simp only [Act.put, List.setIfInBounds_toArray, List.set_cons_zero, List.set_cons_succ]
        refine wpAnyH_take (i := 15) (oi := { dst := some 53, op := Op.load 9 (Operand.tmp 52), type := _, pos := _, after := _, guard := _ }) (v := ?_) rfl (by kernel_rfl) (by kernel_rfl) (by kernel_rfl) (fun _ _ _ h => h) (Or.inl ⟨by rfl, ?_⟩) hHeld ?_
        rotate_left
        · intro wq hSw
          obtain ⟨r1, r2, r3, r4⟩ := hSw
          go_simp
          rfl
        try simp only [Act.put, List.setIfInBounds_toArray, List.set_cons_zero, List.set_cons_succ]
        refine wpAnyH_ready (rs := [13]) (by kernel_rfl) (by simp) ?_
        refine AllReadyH.cons (o := { dst := some 51, op := Op.load 9 (Operand.tmp 50), type := _, pos := _, after := _, guard := _ }) rfl (fun KK hKK => ?_) AllReadyH.nil
        have hKS := Lib.hid hKK
        clear hKK
        have ck := RS.cell hR hk
        rw [hold] at ck
        go_simp
        refine hKS.out.out _ _ hHeld (fun hHeld => ?_)
        clear hKS KK ck
        try simp only [Act.put, List.setIfInBounds_toArray, List.set_cons_zero, List.set_cons_succ]
        refine wpAnyH_ready (rs := [16]) (by kernel_rfl) (by simp) ?_
        refine AllReadyH.cons (o := { dst := some 54, op := Op.call { callee := Callee.value (Operand.tmp 45), args := #[Operand.tmp 51, Operand.tmp 53], argTypes := #[9, 9] }, type := _, pos := _, after := _, guard := _ }) rfl (fun KK hKK => ?_) AllReadyH.nil
        have hKS := Lib.hid hKK
        clear hKK
        go_simp
        refine (was_any _ _ _).mono ?_
        rintro e w16 ⟨rfl, hx⟩
        go_wp2_with fail
        replace hR := RS.dr hR hx
        replace ob6 := ob6.dr hx
        replace o59 := Own.dr o59 hx
        replace o48 := Own.dr o48 hx
        refine hKS.out.out _ _ (hHeld.dr hx) (fun hHeld => ?_)
        clear hKS KK hx
        try simp only [Act.put, List.setIfInBounds_toArray, List.set_cons_zero, List.set_cons_succ]
        refine wpAnyH_take (i := 17) (oi := { dst := some 55, op := Op.indexAddr 22 (Operand.tmp 39) (Operand.tmp 41), type := _, pos := _, after := _, guard := _ }) (v := ?_) rfl (by kernel_rfl) (by kernel_rfl) (by kernel_rfl) (fun _ _ _ h => h) (Or.inl ⟨by rfl, ?_⟩) hHeld ?_
        rotate_left
        · intro wq hSw
          go_simp
          rfl
        try simp only [Act.put, List.setIfInBounds_toArray, List.set_cons_zero, List.set_cons_succ]
        refine wpAnyH_ready (rs := [18]) (by kernel_rfl) (by simp) ?_
        refine AllReadyH.cons (o := { dst := none, op := Op.store 9 (Operand.tmp 55) (Operand.tmp 54), type := _, pos := _, after := _, guard := _ }) rfl (fun KK hKK => ?_) AllReadyH.nil
        have hKS := Lib.hid hKK
        clear hKK
        have f0 := RS.frozen hR k
        have c0 := RS.cell hR hk
        go_simp
        have s7 := St.cellOf w16 g k (.string (Dm.become 0 old xs))
        have hR2 := RS.put hR k (Dm.become 0 old xs)
        have n1 : G5 ≠ g := fun e => RS.ne hR ob6.g (by decide) (by rw [e]; rfl)
        have n2 : B6 ≠ g := fun e => RS.ne hR o59 (by decide) (by rw [e]; rfl)
        have n3 : wr.heap.size ≠ g := fun e => RS.ne hR o48 (by decide) (by rw [e]; rfl)
        have ob7 := ob6.st s7 hg1 (fun e => n1 e.symm)
        have o7 := s7.own o59 n2
        refine hKS.out.out _ _ (hHeld.st s7 n1 n2 n3) (fun hHeld => ?_)
        clear hKS KK f0 c0 s7 hR ob6 o59 o48 n1 n2 n3
        generalize World.setCell w16 ⟨g, k, none⟩ (.string (Dm.become 0 old xs)) = W18 at *
        try simp only [Act.put, List.setIfInBounds_toArray, List.set_cons_zero, List.set_cons_succ]
        refine wpAnyH_done (by kernel_rfl) ?_ _
        go_wp2_with fail
        go_roundw
        case rel => exact ⟨q + 1, by omega, by go_num, ob7, o7, by rw [HT.out]; exact hR2⟩
        case measure => simp [intOf]; omega
    · obtain rfl : q = m := by omega
      have hz : d.P.take q = d.P := List.take_of_length_le (by omega)
      rw [hz] at hr4
      go_wp2_with (first | (refine ld25 rfl rfl rfl ob4.g ?_) | (refine sto25 rfl rfl rfl rfl ob4.t.q rfl ?_))
      intro w9 q9 s9
      go_wp2_with fail
      exact res25 rfl rfl q9 rfl ⟨⟨A1, c1, rfl, (s9.rs hr4 (by omega)).mono (by omega)⟩, (ob4.t.set q9 s9).b⟩
end Dw
end Go.Proofs.Ytmolbliooaofbaa
