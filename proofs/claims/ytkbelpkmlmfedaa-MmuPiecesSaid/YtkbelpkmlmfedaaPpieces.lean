/-
  For all frames, every space, address and two pieces of bytes the law MmuPieces of package mmu returns true: copied, and laid, piece by piece they are what they are at once; no condition.
-/
import Derived.Test.YtkbelpkmlmfedaaRows
import Derived.WalkKit
import Derived.ProofKit
import Derived.OpenShut
import Derived.ShutString
import Derived.Test.YtkbelpkmlmfedaaLw
import Derived.Test.YtkbelpkmlmfedaaMg
import Derived.Test.YtkbelpkmlmfedaaMk
namespace Go.Proofs.Ytkbelpkmlmfedaa.mmuPieces
open Go.ChangeShapes Go.WideShapes Go.ChangeAt Go.RowKit
open Go.ChangeMaps (open_string shut_string)
open _root_.Go.Proofs.Ytkbelpkmlmfedaa.Xe
open _root_.Go.Proofs.Ytkbelpkmlmfedaa.Nm
open _root_.Go.Proofs.Ytkbelpkmlmfedaa.Mo
set_option linter.unusedVariables false
set_option linter.unusedSimpArgs false

theorem own : ownKnob Try.prog.godebug = none := by kernel_rfl
theorem cells83 : Try.prog.cellsOf 83 = 3 := by kernel_rfl
/-- an address, two pieces of bytes -/
structure Pcs where
  q : Nat
  a : ByteArray
  b : ByteArray
def Pcs.cs (x : Pcs) : Array Value := #[.int .u32 (x.q : Nat), .string x.a, .string x.b]
structure Pcs.Ok (x : Pcs) : Prop where
  q : x.q < 4294967296
  a : x.a.size ≤ 4611686018427387903
  b : x.b.size ≤ 4611686018427387903
set_option maxRecDepth 100000 in
theorem okPcs {H : Type} {enc : TypeId × Value → H} {W : World} {base : Nat} {v : Value} {d : DataW H} {p : List MemPlace} (hv : Value.okWide Try.prog W .any base 83 v) (h : DataW.Trod enc Try.prog W 0 (fun _ => true) true 83 v d p) (hwt : ∀ n ∈ d.weights Try.prog 83, n ≤ reachBytes) :
    ∃ x : Pcs, v = .agg x.cs ∧ x.Ok := by
  obtain ⟨cs, rfl, hsz'⟩ := okWide_struct Try.underlying83 hv
  rw [cells83] at hsz'
  obtain ⟨fuel, hf⟩ := h
  obtain ⟨xs, n, _, hd, _, hlen, hx⟩ := DataW.trod_struct Try.underlying83 hf
  obtain ⟨ls⟩ := cs
  match ls, hsz' with
  | [c0, c1, c2], _ =>
    match xs, hlen with
    | [y0, y1, y2], _ =>
      have t0 : DataW.trod enc Try.prog W 0 (fun _ => true) true n 23 (([c0, c1, c2].drop 0).take (Try.prog.cellsOf 23)) = some y0 := hx 0 _ rfl
      have t1 : DataW.trod enc Try.prog W 0 (fun _ => true) true n 9 (([c0, c1, c2].drop 1).take (Try.prog.cellsOf 9)) = some y1 := hx 1 _ rfl
      have t2 : DataW.trod enc Try.prog W 0 (fun _ => true) true n 9 (([c0, c1, c2].drop 2).take (Try.prog.cellsOf 9)) = some y2 := hx 2 _ rfl
      rw [cells23] at t0
      rw [cells9'] at t1
      rw [cells9'] at t2
      simp only [List.drop_zero, List.drop_succ_cons, List.take_succ_cons, List.take_zero] at t0 t1 t2
      obtain ⟨n0, h0, _, w0⟩ := DataW.trod_int Try.underlying23 t0
      obtain ⟨s1, h1, g1, w1⟩ := DataW.trod_string Try.underlying9 t1
      obtain ⟨s2, h2, g2, w2⟩ := DataW.trod_string Try.underlying9 t2
      simp only [List.cons.injEq, and_true] at h0 h1 h2
      subst h0 h1 h2 g1 g2
      injection hd with hd _
      subst hd
      have v0 := wf_u32 w0
      obtain ⟨m0, rfl⟩ := Int.eq_ofNat_of_zero_le v0.1
      have r := reachBytes_lt
      have z1 : s1.size ≤ reachBytes := hwt _ (by
        simp only [DataW.weights, Try.underlying83, List.map_cons, List.map_nil, DataW.weightsEach]
        simp)
      have z2 : s2.size ≤ reachBytes := hwt _ (by
        simp only [DataW.weights, Try.underlying83, List.map_cons, List.map_nil, DataW.weightsEach]
        simp)
      exact ⟨⟨m0, s1, s2⟩, rfl, by have := v0.2; show m0 < 4294967296; omega, by show s1.size ≤ 4611686018427387903; omega, by show s2.size ≤ 4611686018427387903; omega⟩
/-- the law's boxes -/
structure Hx (w : World) (A : Option Addr) (len cap : Nat) (l : List ByteArray) (s : Mm.Sp) (x : Pcs) (wr : World) : Prop where
  sp : Own wr w.heap.size 57 (sc s)
  by_ : Own wr (w.heap.size + 1) 83 x.cs
  t : Ts wr A len l
  b : Below w.heap.size w wr
theorem Hx.below {w : World} {A : Option Addr} {len cap : Nat} {l : List ByteArray} {s : Mm.Sp} {x : Pcs} {wr w1 : World} (o : Hx w A len cap l s x wr) (hx : Below wr.heap.size wr w1) : Hx w A len cap l s x w1 :=
  ⟨(hx.block _ o.sp.lt).trans o.sp, (hx.block _ o.by_.lt).trans o.by_, o.t.below hx, o.b.trans (hx.mono o.b.size)⟩
theorem Hx.dr {w : World} {A : Option Addr} {len cap : Nat} {l : List ByteArray} {s : Mm.Sp} {x : Pcs} {wr w1 : World} (o : Hx w A len cap l s x wr) (hx : Dr wr w1) : Hx w A len cap l s x w1 := by
  obtain ⟨n, rfl⟩ := hx
  exact ⟨o.sp, o.by_, o.t.dr ⟨n, rfl⟩, below_drewN o.b n⟩
theorem Hx.cells {w : World} {A : Option Addr} {len cap : Nat} {l : List ByteArray} {s : Mm.Sp} {x : Pcs} {wr : World} (o : Hx w A len cap l s x wr) :
    wr.cell? ⟨w.heap.size + 1, 0, none⟩ = some (.int .u32 (x.q : Nat)) ∧ wr.cell? ⟨w.heap.size + 1, 1, none⟩ = some (.string x.a) ∧ wr.cell? ⟨w.heap.size + 1, 2, none⟩ = some (.string x.b) :=
  ⟨o.by_.cell 0, o.by_.cell 1, o.by_.cell 2⟩
theorem Hx.new {w : World} {A : Option Addr} {len cap : Nat} {l : List ByteArray} {s : Mm.Sp} {x : Pcs} (ht : Ts w A len l) : Hx w A len cap l s x ((w.alloc (Obj.cells (sc s) 57)).alloc (Obj.cells x.cs 83)) := by
  have h2 := Own.new (w.alloc (Obj.cells (sc s) 57)) 83 x.cs
  rw [show (w.alloc (Obj.cells (sc s) 57)).heap.size = w.heap.size + 1 from by simp] at h2
  have hb : Below w.heap.size w ((w.alloc (Obj.cells (sc s) 57)).alloc (Obj.cells x.cs 83)) := ((Below.refl _ w).alloc (Nat.le_refl _) _).alloc (by simp) _
  exact ⟨(Own.new w 57 (sc s)).alloc _, h2, ht.below hb, hb⟩
/-- laid at once, laid one behind the other -/
theorem lay_parts (F : Mm.Fr) (s : Mm.Sp) (q : Nat) (a b : List UInt8) : Mm.layM F s q (a ++ b) = (Mm.layM F s q a).bind fun G => Mm.layM G s (q + a.length) b := by
  unfold Mm.layM
  rw [List.length_append]
  by_cases h : q ≤ 2048 ∧ q + (a.length + b.length) ≤ 2048
  · rw [if_pos h, if_pos ⟨h.1, by omega⟩, Mm.lay_add]
    cases Mm.layB s F q a with
    | none => rfl
    | some G => exact (if_pos ⟨by omega, by omega⟩).symm
  · rw [if_neg h]
    by_cases h2 : q ≤ 2048 ∧ q + a.length ≤ 2048
    · rw [if_pos h2]
      cases Mm.layB s F q a with
      | none => rfl
      | some G => exact (if_neg (by omega)).symm
    · rw [if_neg h2]; rfl
theorem copy_parts {F : Mm.Fr} {s : Mm.Sp} {q a b : Nat} {L : List UInt8} (h : Mm.copyM F s q ((a : Int) + (b : Int)) = some L) :
    ∃ L1 L2, Mm.copyM F s q (a : Int) = some L1 ∧ Mm.copyM F s (q + a) (b : Int) = some L2 ∧ L = L1 ++ L2 ∧ q ≤ 2048 := by
  unfold Mm.copyM at h
  by_cases c : 0 ≤ (a : Int) + (b : Int) ∧ q ≤ 2048 ∧ (q : Int) + ((a : Int) + (b : Int)) ≤ 2048
  · rw [if_pos c, show ((a : Int) + (b : Int)).toNat = a + b from by omega, Mm.copy_add] at h
    unfold Mm.copyM
    rw [if_pos (by omega), if_pos (by omega), Int.toNat_natCast, Int.toNat_natCast]
    cases h1 : Mm.copyB F s q a with
    | none => rw [h1] at h; cases h
    | some L1 =>
      rw [h1, Option.bind_some] at h
      cases h2 : Mm.copyB F s (q + a) b with
      | none => rw [h2] at h; cases h
      | some L2 =>
        rw [h2] at h
        cases h
        exact ⟨L1, L2, rfl, rfl, rfl, c.2.1⟩
  · rw [if_neg c] at h; cases h
theorem of_cat (a b : List UInt8) : ofB a ++ ofB b = ofB (a ++ b) := by
  apply toL_inj
  rw [toL_app', toL_of, toL_of, toL_of]
set_option maxRecDepth 100000 in
set_option maxHeartbeats 4000000 in
theorem walk (A : Option Addr) (len cap : Nat) (l : List ByteArray) (s : Mm.Sp) (x : Pcs) (hs : SpOk s) (hx : x.Ok) (w : World) (ht : Ts w A len l) (hm : len ≤ 9223372036854775807) (hsz : ∀ k, (nth l k).size ≤ 4611686018427387904) (hn : A = none → len = 0 ∧ cap = 0) :
    Calls Try.prog 14 #[.slice A len cap, .agg (sc s), .agg x.cs] w fun e w' => e = .returned (.bool true) ∧ Below w.heap.size w w' := by
  have st := Hx.new (cap := cap) (s := s) (x := x) ht
  obtain ⟨V, hV⟩ : ∃ V, V = (w.alloc (Obj.cells (sc s) 57)).alloc (Obj.cells x.cs 83) := ⟨_, rfl⟩
  rw [← hV] at st
  have HV := Lib.hid hV
  clear hV ht
  have hgr := fun wr (o : Hx w A len cap l s x wr) => great_any A len cap l wr o.t hm hsz
  clear hsz
  go_enter Try.func14, Try.ntmps14
  go_wp2_with fail
  change Calls _ _ _ ((w.alloc (Obj.cells (sc s) 57)).alloc (Obj.cells x.cs 83)) _
  rw [← HV.out]
  refine (alive_any _).mono ?_
  rintro e w1 ⟨rfl, hx1⟩
  replace st := st.below hx1
  clear HV hx1
  go_wp2_with fail
  refine (hgr _ st).mono ?_
  rintro e w2 ⟨hg, rfl⟩
  clear hgr
  unfold GreatIs at hg
  rcases hg with rfl | ⟨rfl, hbk⟩
  · go_wp2_with fail
    go_ret
    exact ⟨rfl, st.b⟩
  · have hlen : len ≤ 5000 := by
      have := len_le_bulk l
      have := st.t.1
      omega
    have hT : ∀ wr, Hx w A len cap l s x wr → Tz wr A len cap l := fun wr o => ⟨o.t, hn, by omega⟩
    obtain ⟨q, a, b⟩ := x
    obtain ⟨hq, ha, hb⟩ := hx
    dsimp only at *
    have w1' : IntKind.i64.wrap ((a.size : Int) + (b.size : Int)) = (a.size : Int) + (b.size : Int) := IntWalk.i64_in _ (by omega)
    by_cases hd3 : 2000 < a.size + b.size
    · have hd3' : (2000 : Int) < (a.size : Int) + (b.size : Int) := by omega
      obtain ⟨c0, c1, c2⟩ := st.cells
      dsimp only at c0 c1 c2
      go_wp2_with fail
      go_ret
      exact ⟨rfl, st.b⟩
    have hd3' : ¬ (2000 : Int) < (a.size : Int) + (b.size : Int) := by omega
    have hlab := fun wr o => lay_any A len cap l s hs q (a ++ b) wr (hT wr o) hq (by rw [ByteArray.size_append]; omega)
    have hla := fun wr o => lay_any A len cap l s hs q a wr (hT wr o) hq (by omega)
    rw [toL_app', lay_parts, toL_length] at hlab
    have hlb := fun (A1 : Option Addr) (n1 c1 : Nat) (L1 : List ByteArray) (q' : Nat) (hq' : q' < 4294967296) wr (hh : Tz wr A1 n1 c1 L1) => lay_any A1 n1 c1 L1 s hs q' b wr hh hq' (by omega)
    have hcab := fun wr o => copy_any A len cap l s hs q ((a.size : Int) + (b.size : Int)) wr (hT wr o) hq (by omega) (by omega)
    have hca := fun wr o => copy_any A len cap l s hs q (a.size : Int) wr (hT wr o) hq (by omega) (by omega)
    have hcb := fun (q' : Nat) (hq' : q' < 4294967296) wr o => copy_any A len cap l s hs q' (b.size : Int) wr (hT wr o) hq' (by omega) (by omega)
    unfold CopyIs at hcab hca hcb
    unfold MemIs at hlab hla hlb
    have y1 : ¬ 9223372036854775807 < a.size + b.size := by omega
    have u1 := u32_id a.size (by omega)
    obtain ⟨Q, hQ⟩ : ∃ Q, Q = (q + a.size) % 4294967296 := ⟨_, rfl⟩
    have hQl : Q < 4294967296 := by omega
    have eQ : IntKind.u32.wrap ((q : Int) + (a.size : Int)) = (Q : Int) := by
      simp [IntKind.wrap, IntKind.signed, IntKind.bits]
      omega
    have HQ := Lib.hid hQ
    clear hQ
    have hz2 : a.size + b.size ≤ 2000 := by omega
    clear hT hbk hlen hn hm
    obtain ⟨c0, c1, c2⟩ := st.cells
    dsimp only at c0 c1 c2
    have sp := st.sp
    go_wp2_with (refine ls rfl rfl rfl hs sp ?_)
    clear c0 c1 c2 sp
    refine (hlab _ st).mono ?_
    rintro e w3 ⟨⟨A0, n0, c0', L0, rfl, hr0, hm0, hf0⟩, hx3⟩
    replace st := st.below hx3
    have t0 := hr0.ts
    clear hx3 hlab hr0
    obtain ⟨c0, c1, c2⟩ := st.cells
    dsimp only at c0 c1 c2
    have sp := st.sp
    go_wp2_with (refine ls rfl rfl rfl hs sp ?_)
    clear c0 c1 c2 sp
    refine (hla _ st).mono ?_
    rintro e w4 ⟨⟨A1, n1, c1', L1, rfl, hr1, hm1, hf1⟩, hx4⟩
    replace st := st.below hx4
    have t1 := Tz.of hr1 hm1
    replace t0 := t0.below hx4
    clear hx4 hla hr1
    cases hra : Mm.layM (fs l) s q (toL a) with
    | none =>
      rw [hra] at hf0 hf1
      simp only [Option.bind_none, Option.isSome_none]
      clear hf0 hf1 t0 t1 hlb hm0 hm1 hra
      obtain ⟨c0, c1, c2⟩ := st.cells
      dsimp only at c0 c1 c2
      have sp := st.sp
      clear c0 c1 c2 sp
      obtain ⟨c0, c1, c2⟩ := st.cells
      dsimp only at c0 c1 c2
      have sp := st.sp
      go_wp2_with (refine ls rfl rfl rfl hs sp ?_)
      clear c0 c1 c2 sp
      refine (hcab _ st).mono ?_
      rintro e w5 ⟨rfl, hx5⟩
      replace st := st.below hx5
      clear hx5
      obtain ⟨c0, c1, c2⟩ := st.cells
      dsimp only at c0 c1 c2
      have sp := st.sp
      go_wp2_with (refine ls rfl rfl rfl hs sp ?_)
      clear c0 c1 c2 sp
      refine (hca _ st).mono ?_
      rintro e w5 ⟨rfl, hx5⟩
      replace st := st.below hx5
      clear hx5
      obtain ⟨c0, c1, c2⟩ := st.cells
      dsimp only at c0 c1 c2
      have sp := st.sp
      go_wp2_with (refine ls rfl rfl rfl hs sp ?_)
      clear c0 c1 c2 sp
      refine (hcb Q hQl _ st).mono ?_
      rintro e w5 ⟨rfl, hx5⟩
      replace st := st.below hx5
      clear hx5 hcab hca hcb
      cases hrc : Mm.copyM (fs l) s q ((a.size : Int) + (b.size : Int)) with
      | none =>
        simp only [Option.isSome_none, Option.getD_none]
        go_wp2_with fail
        go_ret
        exact ⟨rfl, st.b⟩
      | some L =>
        obtain ⟨M1, M2, e1, e2, e3, e4⟩ := copy_parts hrc
        rw [show q + a.size = Q by have := HQ.out; omega] at e2
        rw [e1, e2, e3]
        simp only [Option.isSome_some, Option.getD_some]
        have tq := str_yes (of_cat M1 M2).symm
        have z1 : (ofB M1).size = a.size := by
          rw [of_size]
          unfold Mm.copyM at e1
          split at e1
          · have := Mm.copy_len _ _ _ _ _ e1
            rw [this, Int.toNat_natCast]
          · cases e1
        have z2 : (ofB M2).size = b.size := by
          rw [of_size]
          unfold Mm.copyM at e2
          split at e2
          · have := Mm.copy_len _ _ _ _ _ e2
            rw [this, Int.toNat_natCast]
          · cases e2
        have yy : ¬ 9223372036854775807 < (ofB M1).size + (ofB M2).size := by rw [z1, z2]; exact y1
        generalize ofB (M1 ++ M2) = X at *
        generalize ofB M1 = X1 at *
        generalize ofB M2 = X2 at *
        clear e1 e2 e3 z1 z2 hrc
        go_wp2_with fail
        go_ret
        exact ⟨rfl, st.b⟩
    | some G =>
      rw [hra] at hf0 hf1
      simp only [Option.bind_some, Option.isSome_some, Option.getD_some] at hf0 hf1 ⊢
      have hq2 : q ≤ 2048 := by
        unfold Mm.layM at hra
        split at hra
        · rename_i c; exact c.1
        · cases hra
      have eQ2 : q + a.size = Q := by have := HQ.out; omega
      rw [eQ2, ← hf1] at hf0 ⊢
      have hb' := fun wr hh => hlb A1 n1 c1' L1 Q hQl wr hh
      generalize hrr : Mm.layM (fs L1) s Q (toL b) = rr at *
      clear hrr hlb hf1 hra eQ2
      obtain ⟨c0, c1, c2⟩ := st.cells
      dsimp only at c0 c1 c2
      have sp := st.sp
      go_wp2_with (refine ls rfl rfl rfl hs sp ?_)
      clear c0 c1 c2 sp
      refine (hb' _ t1).mono ?_
      rintro e w5 ⟨⟨A2, n2, c2', L2, rfl, hr2, hm2, hf2⟩, hx5⟩
      replace st := st.below hx5
      have t2 := hr2.ts
      replace t0 := t0.below hx5
      clear hx5 hb' hr2 t1
      cases rr with
      | none =>
        simp only [Option.isSome_none]
        clear hf0 hf2 t0 t2 hm0 hm1 hm2
        obtain ⟨c0, c1, c2⟩ := st.cells
        dsimp only at c0 c1 c2
        have sp := st.sp
        go_wp2_with (refine ls rfl rfl rfl hs sp ?_)
        clear c0 c1 c2 sp
        refine (hcab _ st).mono ?_
        rintro e w5 ⟨rfl, hx5⟩
        replace st := st.below hx5
        clear hx5
        obtain ⟨c0, c1, c2⟩ := st.cells
        dsimp only at c0 c1 c2
        have sp := st.sp
        go_wp2_with (refine ls rfl rfl rfl hs sp ?_)
        clear c0 c1 c2 sp
        refine (hca _ st).mono ?_
        rintro e w5 ⟨rfl, hx5⟩
        replace st := st.below hx5
        clear hx5
        obtain ⟨c0, c1, c2⟩ := st.cells
        dsimp only at c0 c1 c2
        have sp := st.sp
        go_wp2_with (refine ls rfl rfl rfl hs sp ?_)
        clear c0 c1 c2 sp
        refine (hcb Q hQl _ st).mono ?_
        rintro e w5 ⟨rfl, hx5⟩
        replace st := st.below hx5
        clear hx5 hcab hca hcb
        cases hrc : Mm.copyM (fs l) s q ((a.size : Int) + (b.size : Int)) with
        | none =>
          simp only [Option.isSome_none, Option.getD_none]
          go_wp2_with fail
          go_ret
          exact ⟨rfl, st.b⟩
        | some L =>
          obtain ⟨M1, M2, e1, e2, e3, e4⟩ := copy_parts hrc
          rw [show q + a.size = Q by have := HQ.out; omega] at e2
          rw [e1, e2, e3]
          simp only [Option.isSome_some, Option.getD_some]
          have tq := str_yes (of_cat M1 M2).symm
          have z1 : (ofB M1).size = a.size := by
            rw [of_size]
            unfold Mm.copyM at e1
            split at e1
            · have := Mm.copy_len _ _ _ _ _ e1
              rw [this, Int.toNat_natCast]
            · cases e1
          have z2 : (ofB M2).size = b.size := by
            rw [of_size]
            unfold Mm.copyM at e2
            split at e2
            · have := Mm.copy_len _ _ _ _ _ e2
              rw [this, Int.toNat_natCast]
            · cases e2
          have yy : ¬ 9223372036854775807 < (ofB M1).size + (ofB M2).size := by rw [z1, z2]; exact y1
          generalize ofB (M1 ++ M2) = X at *
          generalize ofB M1 = X1 at *
          generalize ofB M2 = X2 at *
          clear e1 e2 e3 z1 z2 hrc
          go_wp2_with fail
          go_ret
          exact ⟨rfl, st.b⟩
      | some R =>
        have hsm := Nm.same_any A0 A2 n0 c0' n2 c2' L0 L2 w5 t0 t2 (by omega) (by omega)
        rw [decide_eq_true (fs_inj (hf0.trans hf2.symm))] at hsm
        simp only [Option.isSome_some]
        clear hf0 hf2 t0 t2 hm0 hm1 hm2
        go_wp2_with fail
        refine hsm.mono ?_
        rintro e w6 ⟨rfl, hd⟩
        replace st := st.dr hd
        clear hsm hd
        obtain ⟨c0, c1, c2⟩ := st.cells
        dsimp only at c0 c1 c2
        have sp := st.sp
        go_wp2_with (refine ls rfl rfl rfl hs sp ?_)
        clear c0 c1 c2 sp
        refine (hcab _ st).mono ?_
        rintro e w5 ⟨rfl, hx5⟩
        replace st := st.below hx5
        clear hx5
        obtain ⟨c0, c1, c2⟩ := st.cells
        dsimp only at c0 c1 c2
        have sp := st.sp
        go_wp2_with (refine ls rfl rfl rfl hs sp ?_)
        clear c0 c1 c2 sp
        refine (hca _ st).mono ?_
        rintro e w5 ⟨rfl, hx5⟩
        replace st := st.below hx5
        clear hx5
        obtain ⟨c0, c1, c2⟩ := st.cells
        dsimp only at c0 c1 c2
        have sp := st.sp
        go_wp2_with (refine ls rfl rfl rfl hs sp ?_)
        clear c0 c1 c2 sp
        refine (hcb Q hQl _ st).mono ?_
        rintro e w5 ⟨rfl, hx5⟩
        replace st := st.below hx5
        clear hx5 hcab hca hcb
        cases hrc : Mm.copyM (fs l) s q ((a.size : Int) + (b.size : Int)) with
        | none =>
          simp only [Option.isSome_none, Option.getD_none]
          go_wp2_with fail
          go_ret
          exact ⟨rfl, st.b⟩
        | some L =>
          obtain ⟨M1, M2, e1, e2, e3, e4⟩ := copy_parts hrc
          rw [show q + a.size = Q by have := HQ.out; omega] at e2
          rw [e1, e2, e3]
          simp only [Option.isSome_some, Option.getD_some]
          have tq := str_yes (of_cat M1 M2).symm
          have z1 : (ofB M1).size = a.size := by
            rw [of_size]
            unfold Mm.copyM at e1
            split at e1
            · have := Mm.copy_len _ _ _ _ _ e1
              rw [this, Int.toNat_natCast]
            · cases e1
          have z2 : (ofB M2).size = b.size := by
            rw [of_size]
            unfold Mm.copyM at e2
            split at e2
            · have := Mm.copy_len _ _ _ _ _ e2
              rw [this, Int.toNat_natCast]
            · cases e2
          have yy : ¬ 9223372036854775807 < (ofB M1).size + (ofB M2).size := by rw [z1, z2]; exact y1
          generalize ofB (M1 ++ M2) = X at *
          generalize ofB M1 = X1 at *
          generalize ofB M2 = X2 at *
          clear e1 e2 e3 z1 z2 hrc
          go_wp2_with fail
          go_ret
          exact ⟨rfl, st.b⟩

set_option maxRecDepth 100000 in
theorem lifted (os : Os) (started : os.Started) (H : Type) (enc : TypeId × Value → H) :
    ReturnsInHanded {} Try.checked os 14 .any (Rows.mmuPiecesSpec.pre6 enc Try.prog Try.f14 Rows.mmuPiecesRow.domain false) (Rows.mmuPiecesSpec.post enc Try.prog Try.f14 false true false false) := by
  refine returnsInHanded_of_change_sized (C := Try.checked) own started (by kernel_rfl) Try.func14
    (ChangeSpec.witness6 (enc := enc) (C := Try.checked) false ⟨#[], #[.slice none 0 0, .agg (sc s0), .agg #[.int .u32 0, .string ByteArray.empty, .string ByteArray.empty]], []⟩ 8 (by kernel_rfl) (by kernel_rfl) (by kernel_rfl) (by kernel_rfl)) ?_
  intro W base args ds gs before hval0 hW hcnd hsz0 _
  have hval : ∀ (j : Nat) t v, Try.f14.params[j]? = some t → args[j]? = some v → Value.okWide Try.prog W .any base t v := hval0
  have hsz : (DataW.weightsEach Try.prog (Try.f14.params.toList ++ Rows.mmuPiecesSpec.plain.varTypes Try.prog) (ds ++ gs)).all (· ≤ reachBytes) = true := hsz0
  have hW' := hW
  obtain ⟨p, q, hA0, hV, rfl, hfz, hnd⟩ := hW
  have hA : DataW.TrodAll enc Try.prog W 0 (fun _ => true) true Try.f14.params.toList args.toList ds p := hA0
  rw [Try.params14] at hA hval hsz
  obtain ⟨v0, vs0, d0, ds0, p0, q0, hargs, rfl, rfl, h0, r0⟩ := trodAll_cons hA
  obtain ⟨v1, vs1, d1, ds1, p1, q1, rfl, rfl, rfl, h1, r1⟩ := trodAll_cons r0
  obtain ⟨v2, vs2, d2, ds2, p2, q2, rfl, rfl, rfl, h2, r2⟩ := trodAll_cons r1
  obtain ⟨rfl, rfl, rfl⟩ := trodAll_nil r2
  obtain rfl : args = #[v0, v1, v2] := by cases args; simp_all
  obtain ⟨rfl, rfl⟩ := trodVars_none hV
  obtain ⟨a0, len0, cap0, rfl⟩ := okWide_slice Try.underlying53 (hval 0 53 v0 rfl rfl)
  have k0 := h0
  have lt0 : ∀ x ∈ p0, x.block < W.heap.size := by obtain ⟨m, hm⟩ := k0; exact DataW.trod_lt m _ _ _ hm
  obtain ⟨l0, t0, m0, s0⟩ := texts_arg hsz (j := 0) rfl rfl h0
  have n0 := nil_arg h0
  obtain ⟨x1, rfl, ok1⟩ := okSpace (hval 1 57 v1 rfl rfl) h1
  have k1 := h1
  have lt1 : ∀ x ∈ p1, x.block < W.heap.size := by obtain ⟨m, hm⟩ := k1; exact DataW.trod_lt m _ _ _ hm
  obtain ⟨x2, rfl, ok2⟩ := okPcs (hval 2 83 v2 rfl rfl) h2 (fun n hn => by simpa using List.all_eq_true.1 hsz _ (DataW.weights_mem_each (j := 2) rfl rfl _ hn))
  have k2 := h2
  have lt2 : ∀ x ∈ p2, x.block < W.heap.size := by obtain ⟨m, hm⟩ := k2; exact DataW.trod_lt m _ _ _ hm
  clear hA0 hval0 hsz0
  refine (walk a0 len0 cap0 l0 x1 x2 ok1 ok2 W t0 m0 s0 n0).mono fun e W' ⟨he, bel⟩ => ?_
  subst he
  exact ⟨_, rfl, _, _, _, [], _, [], hW', trodAll_mk1 (shut_bool Try.underlying4 _), (trodAll_cons_mk (Below.trod laidOut (by kernel_rfl) (of_decide_eq_true (by kernel_rfl)) k0 bel lt0) (trodAll_cons_mk (Below.trod laidOut (by kernel_rfl) (of_decide_eq_true (by kernel_rfl)) k1 bel lt1) (trodAll_cons_mk (Below.trod laidOut (by kernel_rfl) (of_decide_eq_true (by kernel_rfl)) k2 bel lt2) trodAll_mk0))), rfl, bel.frame _, fun h => by cases h⟩

theorem over : Rows.mmuPiecesRow.holds Try.pinned (OpenSpec.ofChange Rows.mmuPiecesSpec) :=
  OpenClaim.holds_of_wide 14 Try.f14 rfl rfl rfl rfl rfl rfl rfl ⟨rfl, rfl, rfl, rfl, rfl⟩ rfl rfl rfl rfl rfl (by kernel_rfl) Try.func14 (by kernel_rfl)
    (of_decide_eq_true (by kernel_rfl)) (by unfold Func.isWrapper; first | (rw [if_pos (by decide +kernel)]; kernel_rfl) | (rw [if_neg (by decide +kernel)]; exact ⟨rfl, rfl⟩))
    (fun os started H enc _ => lifted os started H enc)

/-- the statement -/
theorem proved : Rows.MmuPiecesSaid := over
end Go.Proofs.Ytkbelpkmlmfedaa.mmuPieces
