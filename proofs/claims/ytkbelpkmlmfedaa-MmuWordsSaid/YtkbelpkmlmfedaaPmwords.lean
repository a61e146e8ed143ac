/-
  For all frames, every space, address and number the law MmuWords of package mmu returns true: a number of four bytes is its bytes, the lowest one first; stored and loaded it is the same; memory that may not be written never is; no condition.
-/
import Derived.Test.YtkbelpkmlmfedaaRows
import Derived.WalkKit
import Derived.ProofKit
import Derived.OpenShut
import Derived.ShutString
import Derived.Test.YtkbelpkmlmfedaaLw
import Derived.Test.YtkbelpkmlmfedaaMg
import Derived.Test.YtkbelpkmlmfedaaMk
import Derived.Test.YtkbelpkmlmfedaaMz
namespace Go.Proofs.Ytkbelpkmlmfedaa.mmuWords
open Go.ChangeShapes Go.WideShapes Go.ChangeAt Go.RowKit
open Go.ChangeMaps (open_string shut_string)
open _root_.Go.Proofs.Ytkbelpkmlmfedaa.Xe
open _root_.Go.Proofs.Ytkbelpkmlmfedaa.Nm
open _root_.Go.Proofs.Ytkbelpkmlmfedaa.Mo
set_option linter.unusedVariables false
set_option linter.unusedSimpArgs false

theorem own : ownKnob Try.prog.godebug = none := by kernel_rfl
/-- a word's law: the space, the address, the number -/
structure Wrd where
  s : Mm.Sp
  q : Nat
  v : Nat
def Wrd.cs (x : Wrd) : Array Value := (sl x.s ++ [Value.int .u32 (x.q : Nat), Value.int .u32 (x.v : Nat)]).toArray
structure Wrd.Ok (x : Wrd) : Prop where
  s : SpOk x.s
  q : x.q < 4294967296
  v : x.v < 4294967296
theorem cells77 : Try.prog.cellsOf 77 = 50 := by kernel_rfl
set_option maxRecDepth 100000 in
theorem okWrd {H : Type} {enc : TypeId × Value → H} {W : World} {base : Nat} {v : Value} {d : DataW H} {p : List MemPlace} (hv : Value.okWide Try.prog W .any base 77 v) (h : DataW.Trod enc Try.prog W 0 (fun _ => true) true 77 v d p) :
    ∃ x : Wrd, v = .agg x.cs ∧ x.Ok := by
  obtain ⟨cs, rfl, hsz'⟩ := okWide_struct Try.underlying77 hv
  rw [cells77] at hsz'
  obtain ⟨fuel, hf⟩ := h
  obtain ⟨xs, n, _, hd, _, hlen, hx⟩ := DataW.trod_struct Try.underlying77 hf
  have hcl : cs.toList.length = 50 := hsz'
  match xs, hlen with
  | [y0, y1, y2], _ =>
    have t0 : DataW.trod enc Try.prog W 0 (fun _ => true) true n 57 ((cs.toList.drop 0).take (Try.prog.cellsOf 57)) = some y0 := hx 0 _ rfl
    have t1 : DataW.trod enc Try.prog W 0 (fun _ => true) true n 23 ((cs.toList.drop 48).take (Try.prog.cellsOf 23)) = some y1 := hx 1 _ rfl
    have t2 : DataW.trod enc Try.prog W 0 (fun _ => true) true n 23 ((cs.toList.drop 49).take (Try.prog.cellsOf 23)) = some y2 := hx 2 _ rfl
    rw [cells57] at t0
    rw [cells23] at t1 t2
    obtain ⟨s, h0, os⟩ := space_of t0
    obtain ⟨n1, h1, _, w1⟩ := DataW.trod_int Try.underlying23 t1
    obtain ⟨n2, h2, _, w2⟩ := DataW.trod_int Try.underlying23 t2
    have v1 := wf_u32 w1
    have v2 := wf_u32 w2
    obtain ⟨m1, rfl⟩ := Int.eq_ofNat_of_zero_le v1.1
    obtain ⟨m2, rfl⟩ := Int.eq_ofNat_of_zero_le v2.1
    refine ⟨⟨s, m1, m2⟩, ?_, os, by have := v1.2; show m1 < 4294967296; omega, by have := v2.2; show m2 < 4294967296; omega⟩
    have e : cs.toList = sl s ++ [Value.int .u32 (m1 : Nat), Value.int .u32 (m2 : Nat)] := by
      have a1 : cs.toList = cs.toList.take 48 ++ cs.toList.drop 48 := (List.take_append_drop 48 _).symm
      have a2 : cs.toList.drop 48 = (cs.toList.drop 48).take 1 ++ (cs.toList.drop 48).drop 1 := (List.take_append_drop 1 _).symm
      rw [List.drop_drop] at a2
      have a3 : (cs.toList.drop 49).take 1 = cs.toList.drop 49 := List.take_of_length_le (by rw [List.length_drop, hcl]; decide)
      rw [a1, a2, ← a3, h1]
      rw [show (cs.toList.drop (48 + 1)).take 1 = [Value.int .u32 (m2 : Nat)] from h2]
      rw [← h0, List.drop_zero]
      rfl
    unfold Wrd.cs
    rw [← e]
theorem sc_one (s : Mm.Sp) : (sc s).all (·.oneCell') = true := by
  rw [Array.all_eq_true_iff_forall_mem]
  intro v hv
  have hv' : v ∈ sl s := by simpa [sc] using hv
  unfold sl at hv'
  obtain ⟨p, _, h⟩ := List.mem_flatMap.1 hv'
  unfold pv at h
  simp only [List.mem_cons, List.not_mem_nil, or_false] at h
  rcases h with rfl | rfl | rfl <;> rfl
theorem rgw {w : World} {g : Nat} {x : Wrd} (h : Own w g 77 x.cs) : w.rangeAt g 0 (sl x.s) := by
  intro j v hj
  rw [Nat.zero_add, h.cell]
  unfold Wrd.cs
  rw [List.getElem?_toArray, List.getElem?_append_left (List.getElem?_eq_some_iff.1 hj).1]
  exact hj
theorem cw {w : World} {g : Nat} {x : Wrd} (hs : SpOk x.s) (h : Own w g 77 x.cs) : w.cell? ⟨g, 48, none⟩ = some (.int .u32 (x.q : Nat)) ∧ w.cell? ⟨g, 49, none⟩ = some (.int .u32 (x.v : Nat)) := by
  have l48 : (sl x.s).length = 48 := by rw [sl_length, hs.n]
  rw [h.cell, h.cell]
  unfold Wrd.cs
  rw [List.getElem?_toArray, List.getElem?_toArray, List.getElem?_append_right (by omega), List.getElem?_append_right (by omega), l48]
  exact ⟨rfl, rfl⟩
theorem and255 (n : Nat) (h : n < 4294967296) : bits .and .u32 (n : Int) 255 = ((n % 256 : Nat) : Int) := by
  rw [show (255 : Int) = ((255 : Nat) : Int) from rfl, u32_and_nat n 255 h (by omega), show (255 : Nat) = 2 ^ 8 - 1 from rfl, Nat.and_two_pow_sub_one_eq_mod]
theorem shifted (z k : Nat) (hz : z < 4294967296) : ((z : Int) / 256 ^ k % 256 != bits BinOp.and IntKind.u32 ((z : Int) / 2 ^ (8 * k)) 255) = false := by
  have e : (z : Int) / 2 ^ (8 * k) = ((z / 256 ^ k : Nat) : Int) := by
    rw [Int.pow_mul, show ((2 : Int) ^ 8) = 256 from by decide]
    simp
  have e2 : (z : Int) / 256 ^ k = ((z / 256 ^ k : Nat) : Int) := by simp
  rw [e, e2, and255 _ (Nat.lt_of_le_of_lt (Nat.div_le_self _ _) hz)]
  simp
theorem load_lt {F : Mm.Fr} {s : Mm.Sp} {q z : Nat} (h : Mm.loadM F s q 4 = some z) : z < 4294967296 := by
  unfold Mm.loadM at h
  split at h
  · cases h
    exact Em.get_lt _ 4 (by simp; omega)
  · cases h
theorem store_shape {F G : Mm.Fr} {s : Mm.Sp} {q v : Nat} (h : Mm.storeM F s q 4 v = some G) : Mm.shape F G := by
  rw [Mm.store_lay F s q v 4 (Mm.store_some h).1] at h
  exact Mm.lay_shape s _ F q G h
/-- the law's space in its box, the frames -/
structure Wx (w : World) (g : Nat) (A : Option Addr) (len cap : Nat) (l : List ByteArray) (s : Mm.Sp) (wr : World) : Prop where
  o : Own wr g 57 (sc s)
  t : Tz wr A len cap l
  b : Below w.heap.size w wr
theorem Wx.below {w : World} {g : Nat} {A : Option Addr} {len cap : Nat} {l : List ByteArray} {s : Mm.Sp} {wr w1 : World} (x : Wx w g A len cap l s wr) (hx : Below wr.heap.size wr w1) : Wx w g A len cap l s w1 := ⟨(hx.block _ x.o.lt).trans x.o, x.t.below hx, x.b.trans (hx.mono x.b.size)⟩
set_option maxRecDepth 100000 in
set_option maxHeartbeats 2000000 in
theorem walk (A : Option Addr) (len cap : Nat) (l : List ByteArray) (x : Wrd) (hx : x.Ok) (w : World) (ht : Ts w A len l) (hm : len ≤ 9223372036854775807) (hsz : ∀ k, (nth l k).size ≤ 4611686018427387904) (hn : A = none → len = 0 ∧ cap = 0) :
    Calls Try.prog 12 #[.slice A len cap, .agg x.cs] w fun e w' => e = .returned (.bool true) ∧ Below w.heap.size w w' := by
  have hs := hx.s
  have o0 := Own.new w 77 x.cs
  have b0 := grow w (Obj.cells x.cs 77)
  obtain ⟨V, hV⟩ : ∃ V, V = w.alloc (Obj.cells x.cs 77) := ⟨_, rfl⟩
  rw [← hV] at o0 b0
  have HV := Lib.hid hV
  clear hV
  go_enter Try.func12, Try.ntmps12
  go_wp2_with fail
  change Calls _ _ _ (w.alloc (Obj.cells x.cs 77)) _
  rw [← HV.out]
  refine (alive_any _).mono ?_
  rintro e w1 ⟨rfl, hx1⟩
  have o1 : Own w1 w.heap.size 77 x.cs := (hx1.block _ o0.lt).trans o0
  have b1 := b0.trans (hx1.mono b0.size)
  clear HV hx1 o0 b0
  go_wp2_with fail
  refine wp_region_held_drew (S := fun w' => Own w' w.heap.size 77 x.cs) (by kernel_rfl) o1 (fun hHeld => ?_)
  have hOld : Own w1.drew w.heap.size 77 x.cs := o1
  have bD := b1.drew
  clear o1 b1
  generalize w1.drew = W2 at *
  refine wpAnyH_take (i := 0) (oi := { dst := some 20, op := Op.fieldAddr 77 (Operand.tmp 3) 0, type := _, pos := _, after := _, guard := _ }) (v := ?_) rfl (by kernel_rfl) (by kernel_rfl) (by kernel_rfl) (fun _ _ _ h => h) (Or.inl ⟨by rfl, ?_⟩) hHeld ?_
  rotate_left
  · intro wq hSw
    go_simp
    rfl
  try simp only [Act.put, List.setIfInBounds_toArray, List.set_cons_zero, List.set_cons_succ]
  refine wpAnyH_take (i := 1) (oi := { dst := some 21, op := Op.load 57 (Operand.tmp 20), type := _, pos := _, after := _, guard := _ }) rfl (by kernel_rfl) (by kernel_rfl) (by kernel_rfl) (fun _ _ _ h => h) (yieldsIf_load_mid (by rfl) 57 _ rfl w.heap.size 0 rfl (sl x.s) _ (fun w1 h => rgw h) Try.underlying57 rfl (by rw [info57, sl_length, hs.n])) hHeld ?_
  try simp only [Act.put, List.setIfInBounds_toArray, List.set_cons_zero, List.set_cons_succ]
  refine wpAnyH_take (i := 2) (oi := { dst := some 22, op := Op.fieldAddr 77 (Operand.tmp 3) 1, type := _, pos := _, after := _, guard := _ }) (v := ?_) rfl (by kernel_rfl) (by kernel_rfl) (by kernel_rfl) (fun _ _ _ h => h) (Or.inl ⟨by rfl, ?_⟩) hHeld ?_
  rotate_left
  · intro wq hSw
    go_simp
    rfl
  try simp only [Act.put, List.setIfInBounds_toArray, List.set_cons_zero, List.set_cons_succ]
  refine wpAnyH_take (i := 3) (oi := { dst := some 23, op := Op.load 23 (Operand.tmp 22), type := _, pos := _, after := _, guard := _ }) (v := ?_) rfl (by kernel_rfl) (by kernel_rfl) (by kernel_rfl) (fun _ _ _ h => h) (Or.inl ⟨by rfl, ?_⟩) hHeld ?_
  rotate_left
  · intro wq hSw
    obtain ⟨c48, c49⟩ := cw hs hSw
    go_simp
    rfl
  try simp only [Act.put, List.setIfInBounds_toArray, List.set_cons_zero, List.set_cons_succ]
  refine wpAnyH_take (i := 4) (oi := { dst := some 24, op := Op.fieldAddr 77 (Operand.tmp 3) 2, type := _, pos := _, after := _, guard := _ }) (v := ?_) rfl (by kernel_rfl) (by kernel_rfl) (by kernel_rfl) (fun _ _ _ h => h) (Or.inl ⟨by rfl, ?_⟩) hHeld ?_
  rotate_left
  · intro wq hSw
    go_simp
    rfl
  try simp only [Act.put, List.setIfInBounds_toArray, List.set_cons_zero, List.set_cons_succ]
  refine wpAnyH_take (i := 5) (oi := { dst := some 25, op := Op.load 23 (Operand.tmp 24), type := _, pos := _, after := _, guard := _ }) (v := ?_) rfl (by kernel_rfl) (by kernel_rfl) (by kernel_rfl) (fun _ _ _ h => h) (Or.inl ⟨by rfl, ?_⟩) hHeld ?_
  rotate_left
  · intro wq hSw
    obtain ⟨c48, c49⟩ := cw hs hSw
    go_simp
    rfl
  try simp only [Act.put, List.setIfInBounds_toArray, List.set_cons_zero, List.set_cons_succ]
  refine wpAnyH_ready (rs := [6]) (by kernel_rfl) (by simp) ?_
  refine AllReadyH.cons (o := { dst := some 5, op := Op.alloc 57, type := _, pos := _, after := _, guard := _ }) rfl (fun KK hKK => ?_) AllReadyH.nil
  have hKS := Lib.hid hKK
  clear hKK
  go_simp
  refine hKS.out.out _ _ (hHeld.alloc _) (fun hHeld => ?_)
  clear hKS KK
  try simp only [Act.put, List.setIfInBounds_toArray, List.set_cons_zero, List.set_cons_succ]
  refine wpAnyH_ready (rs := [7]) (by kernel_rfl) (by simp) ?_
  refine AllReadyH.cons (o := { dst := none, op := Op.store 57 (Operand.tmp 5) (Operand.tmp 21), type := _, pos := _, after := _, guard := _ }) rfl (fun KK hKK => ?_) AllReadyH.nil
  have hKS := Lib.hid hKK
  clear hKK
  refine wp_store_row 57 _ _ rfl W2.heap.size (sc x.s) rfl rfl 57 _ (Own.new W2 57 _) (by rw [info57, sc_size hs]) (by rw [sc_size hs]; rfl) (sc_one x.s) ?_
  rw [World.setRow_alloc_new]
  refine hKS.out.out _ _ ((show Own W2 w.heap.size 77 x.cs from hOld).alloc _) (fun hHeld => ?_)
  clear hKS KK
  try simp only [Act.put, List.setIfInBounds_toArray, List.set_cons_zero, List.set_cons_succ]
  refine wpAnyH_take (i := 8) (oi := { dst := some 6, op := Op.assign (Operand.tmp 23), type := _, pos := _, after := _, guard := _ }) (v := ?_) rfl (by kernel_rfl) (by kernel_rfl) (by kernel_rfl) (fun _ _ _ h => h) (Or.inl ⟨by rfl, ?_⟩) hHeld ?_
  rotate_left
  · intro wq hSw
    go_simp
    rfl
  try simp only [Act.put, List.setIfInBounds_toArray, List.set_cons_zero, List.set_cons_succ]
  refine wpAnyH_take (i := 9) (oi := { dst := some 7, op := Op.assign (Operand.tmp 25), type := _, pos := _, after := _, guard := _ }) (v := ?_) rfl (by kernel_rfl) (by kernel_rfl) (by kernel_rfl) (fun _ _ _ h => h) (Or.inl ⟨by rfl, ?_⟩) hHeld ?_
  rotate_left
  · intro wq hSw
    go_simp
    rfl
  try simp only [Act.put, List.setIfInBounds_toArray, List.set_cons_zero, List.set_cons_succ]
  refine wpAnyH_done (by kernel_rfl) ?_ _
  go_wp2_with fail
  have o5 := Own.new W2 57 (sc x.s)
  have bE := bD.trans ((grow W2 (Obj.cells (sc x.s) 57)).mono bD.size)
  have tE := ht.below bE
  clear hHeld hOld bD
  generalize W2.alloc (Obj.cells (sc x.s) 57) = W3 at *
  generalize W2.heap.size = g at *
  obtain ⟨s, q, v⟩ := x
  obtain ⟨-, hq, hv⟩ := hx
  dsimp only at *
  refine (great_any A len cap l W3 tE hm hsz).mono ?_
  rintro e w2 ⟨hg, rfl⟩
  unfold GreatIs at hg
  rcases hg with rfl | ⟨rfl, hbk⟩
  · go_wp2_with fail
    go_ret
    exact ⟨rfl, bE⟩
  · have hlen : len ≤ 5000 := by
      have := len_le_bulk l
      have := tE.1
      omega
    have st : Wx w g A len cap l s W3 := ⟨o5, ⟨tE, hn, by omega⟩, bE⟩
    clear o5 tE bE hbk hm hsz hn ht
    have hl4 := fun wr (o : Wx w g A len cap l s wr) => load_any A len cap l s hs q 4 wr o.t hq (by decide) (by decide)
    unfold LoadIs at hl4
    have hst := fun wr (o : Wx w g A len cap l s wr) => store_any A len cap l s hs q 4 v wr o.t hq (by decide) (by decide) hv
    unfold MemIs at hst
    have sp := st.o
    go_wp2_with (refine ls rfl rfl rfl hs sp ?_)
    refine (hl4 _ st).mono ?_
    rintro e w4 ⟨rfl, hx4⟩
    replace st := st.below hx4
    clear hl4 sp hx4
    cases hld : Mm.loadM (fs l) s q 4 with
    | none =>
      simp only [Option.isSome_none, Option.getD_none]
      clear hld
      have sp := st.o
      go_wp2_with (refine ls rfl rfl rfl hs sp ?_)
      refine (hst _ st).mono ?_
      rintro e w6 ⟨⟨A1, n1, c1, L1, rfl, hr1, hm1, hf1⟩, hx6⟩
      replace st := st.below hx6
      have t1 := Tz.of hr1 hm1
      clear hst sp hx6 hr1
      cases hrr : Mm.storeM (fs l) s q 4 v with
      | none =>
        rw [hrr] at hf1
        have hL1 : L1 = [] := by
          have : L1.map toL = [] := hf1
          simpa using this
        have hn1 : n1 = 0 := by rw [← t1.t.1, hL1]; rfl
        subst hn1
        simp only [Option.isSome_none]
        clear hf1 hL1 t1 hm1
        go_wp2_with fail
        go_ret
        exact ⟨rfl, st.b⟩
      | some G =>
        rw [hrr] at hf1
        simp only [Option.getD_some, Option.isSome_some] at hf1 ⊢
        subst hf1
        have hld2 := Mm.store_load hrr
        rw [show v % 256 ^ (4 : Int).toNat = v from Nat.mod_eq_of_lt hv] at hld2
        obtain ⟨k1, k2, k3⟩ := Mm.store_some hrr
        have hsh := store_shape hrr
        have hn1 : n1 = len := by
          have := hsh.1
          rw [fs_length, fs_length, t1.t.1, st.t.t.1] at this
          exact this
        subst hn1
        have hl2 := fun wr hh => load_any A1 n1 c1 L1 s hs q 4 wr hh hq (by decide) (by decide)
        unfold LoadIs at hl2
        rw [hld2] at hl2
        simp only [Option.getD_some, Option.isSome_some] at hl2
        have hpw : (Mm.pt s (q / 128)).wr = true := k2.2.1.2 rfl
        have hpg : q / 128 < 16 := by have := k1.2.1; omega
        have hkeep : ∀ i, i < n1 → ¬ (i : Int) = (Mm.pt s (q / 128)).f → nth L1 i = nth l i := by
          intro i hi hne
          have hlt := Mm.good_lt k2
          have h0 := k2.2.2.1
          have e1 : Mm.fr (fs L1) i = Mm.fr (fs l) i := by
            rw [k3, Mm.fr_set _ _ _ _ hlt, if_neg]
            intro e
            unfold Mm.fn at e
            omega
          rw [fr_fs _ _ (by rw [t1.t.1]; exact hi), fr_fs _ _ (by rw [st.t.t.1]; exact hi)] at e1
          exact toL_inj e1
        clear hrr hld2 k1 k2 k3 hsh hm1
        have sp := st.o
        go_wp2_with (refine ls rfl rfl rfl hs sp ?_)
        refine (hl2 _ t1).mono ?_
        rintro e w7 ⟨rfl, hx7⟩
        replace st := st.below hx7
        replace t1 := t1.below hx7
        clear hl2 sp hx7
        obtain ⟨p0, p1, p2⟩ := sc_cells hs st.o _ hpg
        rw [hpw] at p1
        have hpq : (q : Int) / 128 < 16 := by omega
        generalize (Mm.pt s (q / 128)).f = f at *
        clear p0 hpw
        go_wp2_with fail
        go_loopw [17, 106] (fun _ i wr => ∃ k : Nat, k ≤ n1 ∧ i = .int .i64 k ∧ Dr w7 wr) (fun _ i _ => n1 - (intOf i).toNat)
        case atStart => exact ⟨0, Nat.zero_le _, rfl, Dr.refl _⟩
        case round =>
          obtain ⟨k, hk, rfl, hd⟩ := hrel
          by_cases hlt : k < n1
          · obtain ⟨b1, off1, rfl, hc1⟩ := st.t.t.2 (by omega)
            obtain ⟨b2, off2, rfl, hc2⟩ := t1.t.2 (by omega)
            have d1 := hc1 k hlt
            have d2 := hc2 k hlt
            rw [← hd.cell] at d1 d2 p1 p2
            have hkl : (k : Int) < (n1 : Int) := by omega
            by_cases hkf : (k : Int) = f
            · have hb : ((k : Int) != f) = false := by rw [hkf]; simp
              clear hkeep hc1 hc2
              go_wp2_with fail
              go_quiet (fail)
              go_wp2_with fail
              go_roundw
              case rel => exact ⟨k + 1, by omega, by go_num, hd.drewN _⟩
              case measure => simp [intOf]; omega
            · have hb : ((k : Int) != f) = true := by rw [bne_iff_ne]; exact hkf
              rw [hkeep k hlt hkf] at d2
              have tt := str_yes (rfl : nth l k = nth l k)
              generalize nth l k = T at *
              clear hkeep hc1 hc2
              go_wp2_with fail
              go_quiet (fail)
              go_wp2_with fail
              go_roundw
              case rel => exact ⟨k + 1, by omega, by go_num, hd.drewN _⟩
              case measure => simp [intOf]; omega
          · obtain rfl : k = n1 := by omega
            go_wp2_with fail
            go_ret
            exact ⟨rfl, below_dr st.b hd⟩
    | some z =>
      simp only [Option.isSome_some, Option.getD_some]
      have hq2 : q < 2048 := by
        unfold Mm.loadM at hld
        split at hld
        · rename_i c; exact c.2.1
        · cases hld
      have hz4 := load_lt hld
      have hb1 := fun (k : Nat) (hk : k < 4) => Mm.load_four hld k hk
      have hl1 := fun (k : Nat) (hk : k < 4) wr (o : Wx w g A len cap l s wr) => load_any A len cap l s hs (q + k) 1 wr o.t (by omega) (by decide) (by decide)
      unfold LoadIs at hl1
      go_wp2_with fail
      go_loopw [10, 11, 12, 37] (fun _ _ _ i wr => ∃ k : Nat, k ≤ 4 ∧ i = .int .i64 k ∧ Wx w g A len cap l s wr) (fun _ _ _ i _ => 4 - (intOf i).toNat)
      case atStart => exact ⟨0, by omega, rfl, st⟩
      case round =>
        clear st
        obtain ⟨k, hk, rfl, st⟩ := hrel
        by_cases hlt : k < 4
        · have hc := hl1 k hlt
          rw [hb1 k hlt] at hc
          simp only [Option.isSome_some, Option.getD_some, Int.natCast_add] at hc
          have u1 := u32_id k (by omega)
          have u2 : IntKind.u32.wrap ((q : Int) + (k : Int)) = (q : Int) + (k : Int) := by
            have := u32_id (q + k) (by omega)
            simpa using this
          have sp := st.o
          clear hb1 hl1
          go_wp2_with (refine ls rfl rfl rfl hs sp ?_)
          refine (hc _ st).mono ?_
          rintro e w5 ⟨rfl, hx5⟩
          replace st := st.below hx5
          have hsf := shifted z k hz4
          clear hc hx5 sp
          go_wp2_with fail
          go_roundw
          case rel => exact ⟨k + 1, by omega, by go_num, st⟩
          case measure => simp [intOf]; omega
        · obtain rfl : k = 4 := by omega
          clear hb1 hl1
          have sp := st.o
          go_wp2_with (refine ls rfl rfl rfl hs sp ?_)
          refine (hst _ st).mono ?_
          rintro e w6 ⟨⟨A1, n1, c1, L1, rfl, hr1, hm1, hf1⟩, hx6⟩
          replace st := st.below hx6
          have t1 := Tz.of hr1 hm1
          clear hst sp hx6 hr1
          cases hrr : Mm.storeM (fs l) s q 4 v with
          | none =>
            rw [hrr] at hf1
            have hL1 : L1 = [] := by
              have : L1.map toL = [] := hf1
              simpa using this
            have hn1 : n1 = 0 := by rw [← t1.t.1, hL1]; rfl
            subst hn1
            simp only [Option.isSome_none]
            clear hf1 hL1 t1 hm1
            go_wp2_with fail
            go_ret
            exact ⟨rfl, st.b⟩
          | some G =>
            rw [hrr] at hf1
            simp only [Option.getD_some, Option.isSome_some] at hf1 ⊢
            subst hf1
            have hld2 := Mm.store_load hrr
            rw [show v % 256 ^ (4 : Int).toNat = v from Nat.mod_eq_of_lt hv] at hld2
            obtain ⟨k1, k2, k3⟩ := Mm.store_some hrr
            have hsh := store_shape hrr
            have hn1 : n1 = len := by
              have := hsh.1
              rw [fs_length, fs_length, t1.t.1, st.t.t.1] at this
              exact this
            subst hn1
            have hl2 := fun wr hh => load_any A1 n1 c1 L1 s hs q 4 wr hh hq (by decide) (by decide)
            unfold LoadIs at hl2
            rw [hld2] at hl2
            simp only [Option.getD_some, Option.isSome_some] at hl2
            have hpw : (Mm.pt s (q / 128)).wr = true := k2.2.1.2 rfl
            have hpg : q / 128 < 16 := by have := k1.2.1; omega
            have hkeep : ∀ i, i < n1 → ¬ (i : Int) = (Mm.pt s (q / 128)).f → nth L1 i = nth l i := by
              intro i hi hne
              have hlt := Mm.good_lt k2
              have h0 := k2.2.2.1
              have e1 : Mm.fr (fs L1) i = Mm.fr (fs l) i := by
                rw [k3, Mm.fr_set _ _ _ _ hlt, if_neg]
                intro e
                unfold Mm.fn at e
                omega
              rw [fr_fs _ _ (by rw [t1.t.1]; exact hi), fr_fs _ _ (by rw [st.t.t.1]; exact hi)] at e1
              exact toL_inj e1
            clear hrr hld2 k1 k2 k3 hsh hm1
            have sp := st.o
            go_wp2_with (refine ls rfl rfl rfl hs sp ?_)
            refine (hl2 _ t1).mono ?_
            rintro e w7 ⟨rfl, hx7⟩
            replace st := st.below hx7
            replace t1 := t1.below hx7
            clear hl2 sp hx7
            obtain ⟨p0, p1, p2⟩ := sc_cells hs st.o _ hpg
            rw [hpw] at p1
            have hpq : (q : Int) / 128 < 16 := by omega
            generalize (Mm.pt s (q / 128)).f = f at *
            clear p0 hpw
            go_wp2_with fail
            go_loopw [17, 106] (fun _ i wr => ∃ k : Nat, k ≤ n1 ∧ i = .int .i64 k ∧ Dr w7 wr) (fun _ i _ => n1 - (intOf i).toNat)
            case atStart => exact ⟨0, Nat.zero_le _, rfl, Dr.refl _⟩
            case round =>
              obtain ⟨k, hk, rfl, hd⟩ := hrel
              by_cases hlt : k < n1
              · obtain ⟨b1, off1, rfl, hc1⟩ := st.t.t.2 (by omega)
                obtain ⟨b2, off2, rfl, hc2⟩ := t1.t.2 (by omega)
                have d1 := hc1 k hlt
                have d2 := hc2 k hlt
                rw [← hd.cell] at d1 d2 p1 p2
                have hkl : (k : Int) < (n1 : Int) := by omega
                by_cases hkf : (k : Int) = f
                · have hb : ((k : Int) != f) = false := by rw [hkf]; simp
                  clear hkeep hc1 hc2
                  go_wp2_with fail
                  go_quiet (fail)
                  go_wp2_with fail
                  go_roundw
                  case rel => exact ⟨k + 1, by omega, by go_num, hd.drewN _⟩
                  case measure => simp [intOf]; omega
                · have hb : ((k : Int) != f) = true := by rw [bne_iff_ne]; exact hkf
                  rw [hkeep k hlt hkf] at d2
                  have tt := str_yes (rfl : nth l k = nth l k)
                  generalize nth l k = T at *
                  clear hkeep hc1 hc2
                  go_wp2_with fail
                  go_quiet (fail)
                  go_wp2_with fail
                  go_roundw
                  case rel => exact ⟨k + 1, by omega, by go_num, hd.drewN _⟩
                  case measure => simp [intOf]; omega
              · obtain rfl : k = n1 := by omega
                go_wp2_with fail
                go_ret
                exact ⟨rfl, below_dr st.b hd⟩

set_option maxRecDepth 100000 in
theorem lifted (os : Os) (started : os.Started) (H : Type) (enc : TypeId × Value → H) :
    ReturnsInHanded {} Try.checked os 12 .any (Rows.mmuWordsSpec.pre6 enc Try.prog Try.f12 Rows.mmuWordsRow.domain false) (Rows.mmuWordsSpec.post enc Try.prog Try.f12 false true false false) := by
  refine returnsInHanded_of_change_sized (C := Try.checked) own started (by kernel_rfl) Try.func12
    (ChangeSpec.witness6 (enc := enc) (C := Try.checked) false ⟨#[], #[.slice none 0 0, .agg (Wrd.cs ⟨s0, 0, 0⟩)], []⟩ 8 (by kernel_rfl) (by kernel_rfl) (by kernel_rfl) (by kernel_rfl)) ?_
  intro W base args ds gs before hval0 hW hcnd hsz0 _
  have hval : ∀ (j : Nat) t v, Try.f12.params[j]? = some t → args[j]? = some v → Value.okWide Try.prog W .any base t v := hval0
  have hsz : (DataW.weightsEach Try.prog (Try.f12.params.toList ++ Rows.mmuWordsSpec.plain.varTypes Try.prog) (ds ++ gs)).all (· ≤ reachBytes) = true := hsz0
  have hW' := hW
  obtain ⟨p, q, hA0, hV, rfl, hfz, hnd⟩ := hW
  have hA : DataW.TrodAll enc Try.prog W 0 (fun _ => true) true Try.f12.params.toList args.toList ds p := hA0
  rw [Try.params12] at hA hval hsz
  obtain ⟨v0, vs0, d0, ds0, p0, q0, hargs, rfl, rfl, h0, r0⟩ := trodAll_cons hA
  obtain ⟨v1, vs1, d1, ds1, p1, q1, rfl, rfl, rfl, h1, r1⟩ := trodAll_cons r0
  obtain ⟨rfl, rfl, rfl⟩ := trodAll_nil r1
  obtain rfl : args = #[v0, v1] := by cases args; simp_all
  obtain ⟨rfl, rfl⟩ := trodVars_none hV
  obtain ⟨a0, len0, cap0, rfl⟩ := okWide_slice Try.underlying53 (hval 0 53 v0 rfl rfl)
  have k0 := h0
  have lt0 : ∀ x ∈ p0, x.block < W.heap.size := by obtain ⟨m, hm⟩ := k0; exact DataW.trod_lt m _ _ _ hm
  obtain ⟨l0, t0, m0, s0⟩ := texts_arg hsz (j := 0) rfl rfl h0
  have n0 := nil_arg h0
  obtain ⟨x1, rfl, ok1⟩ := okWrd (hval 1 77 v1 rfl rfl) h1
  have k1 := h1
  have lt1 : ∀ x ∈ p1, x.block < W.heap.size := by obtain ⟨m, hm⟩ := k1; exact DataW.trod_lt m _ _ _ hm
  clear hA0 hval0 hsz0
  refine (walk a0 len0 cap0 l0 x1 ok1 W t0 m0 s0 n0).mono fun e W' ⟨he, bel⟩ => ?_
  subst he
  exact ⟨_, rfl, _, _, _, [], _, [], hW', trodAll_mk1 (shut_bool Try.underlying4 _), (trodAll_cons_mk (Below.trod laidOut (by kernel_rfl) (of_decide_eq_true (by kernel_rfl)) k0 bel lt0) (trodAll_cons_mk (Below.trod laidOut (by kernel_rfl) (of_decide_eq_true (by kernel_rfl)) k1 bel lt1) trodAll_mk0)), rfl, bel.frame _, fun h => by cases h⟩

theorem over : Rows.mmuWordsRow.holds Try.pinned (OpenSpec.ofChange Rows.mmuWordsSpec) :=
  OpenClaim.holds_of_wide 12 Try.f12 rfl rfl rfl rfl rfl rfl rfl ⟨rfl, rfl, rfl, rfl, rfl⟩ rfl rfl rfl rfl rfl (by kernel_rfl) Try.func12 (by kernel_rfl)
    (of_decide_eq_true (by kernel_rfl)) (by unfold Func.isWrapper; first | (rw [if_pos (by decide +kernel)]; kernel_rfl) | (rw [if_neg (by decide +kernel)]; exact ⟨rfl, rfl⟩))
    (fun os started H enc _ => lifted os started H enc)

/-- the statement -/
theorem proved : Rows.MmuWordsSaid := over
end Go.Proofs.Ytkbelpkmlmfedaa.mmuWords
