/-
  For all frames, every space, address and bytes the law MmuBack of package mmu returns true: what was laid is there, all other bytes of memory are as they were, and what was handed in is; no condition.
-/
import Derived.Test.YtkbelpkmlmfedaaRows
import Derived.WalkKit
import Derived.ProofKit
import Derived.OpenShut
import Derived.ShutString
import Derived.Test.YtkbelpkmlmfedaaLw
import Derived.Test.YtkbelpkmlmfedaaMg
import Derived.Test.YtkbelpkmlmfedaaMk
import Derived.Test.YtkbelpkmlmfedaaMz
namespace Go.Proofs.Ytkbelpkmlmfedaa.mmuBack
open Go.ChangeShapes Go.WideShapes Go.ChangeAt Go.RowKit
open Go.ChangeMaps (open_string shut_string)
open _root_.Go.Proofs.Ytkbelpkmlmfedaa.Xe
open _root_.Go.Proofs.Ytkbelpkmlmfedaa.Nm
open _root_.Go.Proofs.Ytkbelpkmlmfedaa.Mo
set_option linter.unusedVariables false
set_option linter.unusedSimpArgs false

theorem own : ownKnob Try.prog.godebug = none := by kernel_rfl
/-- a guarded load of the space -/
theorem lsg {ops : Array Oper} {rest : List Oper} {o : Oper} {a : Act} {w : World} {Q : Exit → Act → World → Prop} {x : Operand} {g : Nat} {s : Mm.Sp}
    (hgd : Region.wanted o (yielded ops a.tmps) = true) (ho : o.op = .load 57 x) (hx : a.eval x = .pointer (some ⟨g, 0, none⟩)) (hs : SpOk s) (hg : Own w g 57 (sc s))
    (h : wpList Try.prog ops Q rest (a.put o.dst (.agg (sc s))) w) : wpList Try.prog ops Q (o :: rest) a w := by
  show (if Region.wanted o (yielded ops a.tmps) then o.wp Try.prog a w (wpList Try.prog ops Q rest) Q ∨ (o.asks Try.prog a w ∧ LetsOut Q) else wpList Try.prog ops Q rest (a.put o.dst undef) w)
  rw [if_pos hgd]
  exact .inl (wp_load_row 57 x ho g hx 57 (sc s) (0, 0) _ hg Try.underlying57 rfl (by rw [info57, sc_size hs]) h)
theorem lay_some {F G : Mm.Fr} {s : Mm.Sp} {q : Nat} {d : List UInt8} (h : Mm.layM F s q d = some G) : q ≤ 2048 ∧ q + d.length ≤ 2048 ∧ Mm.layB s F q d = some G := by
  unfold Mm.layM at h
  split at h
  · rename_i c; exact ⟨c.1, c.2, h⟩
  · cases h
theorem load_same {F G : Mm.Fr} {s : Mm.Sp} (h : Mm.shape F G) (r : Nat) : (Mm.loadM G s r 1).isSome = (Mm.loadM F s r 1).isSome := by
  rw [Mm.load_one, Mm.load_one]
  unfold Mm.byte
  by_cases k : Mm.good F s r false
  · rw [if_pos k, if_pos ((Mm.shape_good h s r false).2 k)]; rfl
  · rw [if_neg k, if_neg (fun x => k ((Mm.shape_good h s r false).1 x))]
/-- the law's boxes: the space, what is asked; the frames -/
structure Gx (w : World) (A : Option Addr) (len cap : Nat) (l : List ByteArray) (s : Mm.Sp) (x : Span) (wr : World) : Prop where
  sp : Own wr w.heap.size 57 (sc s)
  by_ : Own wr (w.heap.size + 1) 70 x.cs
  t : Ts wr A len l
  b : Below w.heap.size w wr
theorem Gx.below {w : World} {A : Option Addr} {len cap : Nat} {l : List ByteArray} {s : Mm.Sp} {x : Span} {wr w1 : World} (o : Gx w A len cap l s x wr) (hx : Below wr.heap.size wr w1) : Gx w A len cap l s x w1 :=
  ⟨(hx.block _ o.sp.lt).trans o.sp, (hx.block _ o.by_.lt).trans o.by_, o.t.below hx, o.b.trans (hx.mono o.b.size)⟩
theorem Gx.high {w : World} {A : Option Addr} {len cap : Nat} {l : List ByteArray} {s : Mm.Sp} {x : Span} {wr w1 : World} (o : Gx w A len cap l s x wr) (hx : Below (w.heap.size + 2) wr w1) (ht : Ts w A len l) : Gx w A len cap l s x w1 :=
  ⟨(hx.block _ (by omega)).trans o.sp, (hx.block _ (by omega)).trans o.by_, ht.below (o.b.trans (hx.mono (by omega))), o.b.trans (hx.mono (by omega))⟩
theorem Gx.cells {w : World} {A : Option Addr} {len cap : Nat} {l : List ByteArray} {s : Mm.Sp} {x : Span} {wr : World} (o : Gx w A len cap l s x wr) :
    wr.cell? ⟨w.heap.size + 1, 0, none⟩ = some (.int .u32 (x.q : Nat)) ∧ wr.cell? ⟨w.heap.size + 1, 1, none⟩ = some (.int .i64 x.n) ∧ wr.cell? ⟨w.heap.size + 1, 2, none⟩ = some (.string x.d) :=
  ⟨o.by_.cell 0, o.by_.cell 1, o.by_.cell 2⟩
theorem Gx.new {w : World} {A : Option Addr} {len cap : Nat} {l : List ByteArray} {s : Mm.Sp} {x : Span} (ht : Ts w A len l) : Gx w A len cap l s x ((w.alloc (Obj.cells (sc s) 57)).alloc (Obj.cells x.cs 70)) := by
  have h2 := Own.new (w.alloc (Obj.cells (sc s) 57)) 70 x.cs
  rw [show (w.alloc (Obj.cells (sc s) 57)).heap.size = w.heap.size + 1 from by simp] at h2
  have hb : Below w.heap.size w ((w.alloc (Obj.cells (sc s) 57)).alloc (Obj.cells x.cs 70)) := ((Below.refl _ w).alloc (Nat.le_refl _) _).alloc (by simp) _
  exact ⟨(Own.new w 57 (sc s)).alloc _, h2, ht.below hb, hb⟩
set_option maxRecDepth 100000 in
set_option maxHeartbeats 4000000 in
theorem walk (A : Option Addr) (len cap : Nat) (l : List ByteArray) (s : Mm.Sp) (x : Span) (hs : SpOk s) (hx : x.Ok) (w : World) (ht : Ts w A len l) (hm : len ≤ 9223372036854775807) (hsz : ∀ k, (nth l k).size ≤ 4611686018427387904) (hn : A = none → len = 0 ∧ cap = 0) :
    Calls Try.prog 11 #[.slice A len cap, .agg (sc s), .agg x.cs] w fun e w' => e = .returned (.bool true) ∧ Below w.heap.size w w' := by
  have st := Gx.new (cap := cap) (s := s) (x := x) ht
  obtain ⟨V, hV⟩ : ∃ V, V = (w.alloc (Obj.cells (sc s) 57)).alloc (Obj.cells x.cs 70) := ⟨_, rfl⟩
  rw [← hV] at st
  have HV := Lib.hid hV
  have HT0 := Lib.hid ht
  clear hV ht
  have hgr := fun wr (o : Gx w A len cap l s x wr) => great_any A len cap l wr o.t hm hsz
  clear hsz
  go_enter Try.func11, Try.ntmps11
  go_wp2_with fail
  change Calls _ _ _ ((w.alloc (Obj.cells (sc s) 57)).alloc (Obj.cells x.cs 70)) _
  rw [← HV.out]
  refine (alive_any _).mono ?_
  rintro e w1 ⟨rfl, hx1⟩
  replace st := st.below hx1
  clear HV hx1
  go_wp2_with fail
  refine (hgr _ st).mono ?_
  rintro e w2 ⟨hg, rfl⟩
  clear hgr
  unfold GreatIs at hg
  rcases hg with rfl | ⟨rfl, hbk⟩
  · go_wp2_with fail
    go_ret
    exact ⟨rfl, st.b⟩
  · have hlen : len ≤ 5000 := by
      have := len_le_bulk l
      have := st.t.1
      omega
    have hT : ∀ wr, Gx w A len cap l s x wr → Tz wr A len cap l := fun wr o => ⟨o.t, hn, by omega⟩
    obtain ⟨q, n, d⟩ := x
    obtain ⟨hq, hn0, hn1, hd⟩ := hx
    dsimp only at *
    by_cases hd3 : 3000 < d.size
    · have hd3' : (3000 : Int) < (d.size : Int) := by omega
      obtain ⟨c0, c1, c2⟩ := st.cells
      dsimp only at c0 c1 c2
      go_wp2_with fail
      go_ret
      exact ⟨rfl, st.b⟩
    have hd3' : ¬ (3000 : Int) < (d.size : Int) := by omega
    have hap := fun wr => apart_any s hs wr
    unfold ApIs at hap
    have h40 := fun wr o => lay_any A len cap l s hs q d wr (hT wr o) hq hd
    unfold MemIs at h40
    have hln := st.t.1
    obtain ⟨c0, c1, c2⟩ := st.cells
    dsimp only at c0 c1 c2
    have sp := st.sp
    go_wp2_with (first | (refine lsg (by rfl) rfl rfl hs sp ?_) | (refine ls rfl rfl rfl hs sp ?_))
    clear c0 c1 c2 sp
    refine (hap _).mono ?_
    rintro e w3 ⟨⟨ba, rfl, hba⟩, hx3⟩
    replace st := st.below hx3
    clear hx3 hap
    cases ba
    · go_wp2_with fail
      go_ret
      exact ⟨rfl, st.b⟩
    have hA := hba rfl
    clear hba
    have hs2 : w.heap.size + 2 ≤ w3.heap.size := st.by_.lt
    have hr0 : RS (w3.alloc (Obj.cells #[] 9)) (w.heap.size + 2) (some ⟨w3.heap.size, 0, none⟩) 0 0 [] := RS.empty (Own.new w3 9 #[]) hs2
    have hsz3 : w.heap.size + 2 ≤ (w3.alloc (Obj.cells #[] 9)).heap.size := Nat.le_trans hs2 (grow w3 (Obj.cells #[] 9)).size
    have st3 := st.below (grow w3 (Obj.cells #[] 9))
    have hl3 := hT _ st3
    clear st hs2
    go_wp2_with (first | (at_builtin; refine app_all rfl (.tmp 34) (.tmp 35) rfl (w.heap.size + 2) w3.heap.size 0 rfl hr0 _ _ _ l rfl hl3 hsz3 ?_; intro A0 c0' w4 hr4 hx4; have st4 := st3.high hx4 HT0.out; obtain ⟨c0, c1, c2⟩ := st4.cells; dsimp only at c0 c1 c2; have sp4 := st4.sp) | (refine ls rfl rfl rfl hs sp4 ?_))
    clear c0 c1 c2 sp4 hr0 hsz3 st3 hl3 hx4 HT0
    refine (h40 _ st4).mono ?_
    rintro e w5 ⟨⟨A1, n1, c1, L1, rfl, hr1, hm1, hf1⟩, hx5⟩
    have st := st4.below hx5
    have t0 := hr4.ts.below hx5
    have t1 := Tz.of hr1 hm1
    clear hx5 h40 hr1 st4 hr4
    have hsm := same_any A A0 len cap len c0' l l w5 st.t t0 (by omega) (by omega)
    rw [decide_eq_true rfl] at hsm
    cases hrr : Mm.layM (fs l) s q (toL d) with
    | none =>
      rw [hrr] at hf1
      have hL1 : L1 = [] := by
        have : L1.map toL = [] := hf1
        simpa using this
      have hn1 : n1 = 0 := by rw [← t1.t.1, hL1]; rfl
      subst hn1
      simp only [Option.isSome_none]
      clear t0 t1 hf1 hm1 hL1
      go_wp2_with fail
      refine hsm.mono ?_
      rintro e w6 ⟨rfl, hd6⟩
      go_wp2_with fail
      go_ret
      exact ⟨rfl, below_dr st.b hd6⟩
    | some G =>
      rw [hrr] at hf1
      simp only [Option.getD_some, Option.isSome_some] at hf1 ⊢
      subst hf1
      obtain ⟨g1, g2, g3⟩ := lay_some hrr
      have hshape := Mm.lay_shape s _ _ _ _ g3
      have hn1 : n1 = len := by
        have := hshape.1
        rw [fs_length, fs_length, t1.t.1, hln] at this
        exact this
      have hcp : Mm.copyM (fs L1) s q (d.size : Int) = some (toL d) := by
        unfold Mm.copyM
        rw [toL_length] at g2
        rw [if_pos (by omega), Int.toNat_natCast]
        have := Mm.lay_copy hA _ _ _ _ g3
        rwa [toL_length] at this
      have hcopy := fun wr hh => copy_any A1 n1 c1 L1 s hs q (d.size : Int) wr hh hq (by omega) (by omega)
      unfold CopyIs at hcopy
      rw [hcp] at hcopy
      simp only [Option.getD_some, Option.isSome_some] at hcopy
      rw [of_toL] at hcopy
      have hsome := fun r => load_same (s := s) hshape r
      have hother : ∀ r, (r < q ∨ q + d.size ≤ r) → Mm.loadM (fs L1) s r 1 = Mm.loadM (fs l) s r 1 := by
        intro r hr
        rw [Mm.load_one, Mm.load_one, Mm.lay_other hA _ _ _ _ g3 r (by rw [toL_length]; exact hr)]
      subst hn1
      rw [toL_length] at g2
      have hld := fun (r : Nat) (hr : r < 4294967296) wr o => load_any A n1 cap l s hs r 1 wr (hT wr o) hr (by decide) (by decide)
      have hld1 := fun (r : Nat) (hr : r < 4294967296) wr hh => load_any A1 n1 c1 L1 s hs r 1 wr hh hr (by decide) (by decide)
      unfold LoadIs at hld hld1
      have td := str_yes (rfl : d = d)
      clear t0 hrr g3 hcp hshape hA hm1 hT hbk hn hm hln
      go_wp2_with fail
      refine hsm.mono ?_
      rintro e w6 ⟨rfl, hd6⟩
      have st6 : Gx w A n1 cap l s ⟨q, n, d⟩ w6 := by
        obtain ⟨nn, rfl⟩ := hd6
        exact ⟨st.sp, st.by_, st.t.dr ⟨nn, rfl⟩, below_drewN st.b nn⟩
      have t6 := t1.dr hd6
      clear hsm hd6 st t1
      obtain ⟨c0, c1', c2⟩ := st6.cells
      dsimp only at c0 c1' c2
      have sp6 := st6.sp
      go_wp2_with (refine ls rfl rfl rfl hs sp6 ?_)
      clear c0 c1' c2 sp6
      refine (hcopy _ t6).mono ?_
      rintro e w7 ⟨rfl, hx7⟩
      have st := st6.below hx7
      have t1 := t6.below hx7
      clear st6 t6 hx7 hcopy
      obtain ⟨c0, c1', c2⟩ := st.cells
      dsimp only at c0 c1' c2
      go_wp2_with fail
      clear c0 c1' c2
      have u1 := u32_id d.size (by omega)
      have u2 : IntKind.u32.wrap ((q : Int) + (d.size : Int)) = (q : Int) + (d.size : Int) := by
        have := u32_id (q + d.size) (by omega)
        simpa using this
      go_loopw [12, 13, 14, 15, 16, 17] (fun a _ _ _ _ _ wr => ∃ k : Nat, k ≤ 2048 ∧ a = .int .u32 (k : Nat) ∧ Below w7.heap.size w7 wr) (fun a _ _ _ _ _ _ => 2048 - (intOf a).toNat)
      case atStart => exact ⟨0, by omega, rfl, Below.refl _ _⟩
      case round =>
        obtain ⟨k, hk, rfl, hbr⟩ := hrel
        by_cases hlt : k < 2048
        · have hc1 := fun wr o => hld k (by omega) wr o
          have hc2 := fun wr hh => hld1 k (by omega) wr hh
          have st' := st.below hbr
          have t' := t1.below hbr
          have hs1 := hsome k
          have hs2 := hother k
          have sp := st'.sp
          clear hld hld1 hsome hother st t1
          by_cases hin : q ≤ k ∧ k < q + d.size
          · obtain ⟨i1, i2⟩ := hin
            have i1' : (q : Int) ≤ (k : Int) := by omega
            have i2' : (k : Int) < (q : Int) + (d.size : Int) := by omega
            rw [hs1] at hc2
            clear hs1 hs2
            generalize (Mm.loadM (fs l) s k 1).isSome = b1 at *
            generalize (Mm.loadM (fs l) s k 1).getD 0 = v1 at *
            generalize (Mm.loadM (fs L1) s k 1).getD 0 = v2 at *
            go_wp2_with (refine ls rfl rfl rfl hs sp ?_)
            refine (hc1 _ st').mono ?_
            rintro e w8 ⟨rfl, hx8⟩
            have hb8 := hbr.trans (hx8.mono hbr.size)
            have st8 := st'.below hx8
            have t8 := t'.below hx8
            have sp8 := st8.sp
            clear hc1 sp st' t' hx8
            go_wp2_with (refine ls rfl rfl rfl hs sp8 ?_)
            refine (hc2 _ t8).mono ?_
            rintro e w9 ⟨rfl, hx9⟩
            have hb9 := hb8.trans (hx9.mono hb8.size)
            have st9 := st8.below hx9
            obtain ⟨c0, c1', c2⟩ := st9.cells
            dsimp only at c0 c1' c2
            clear hc2 sp8 st8 t8 hx9 hb8 hbr st9
            go_wp2_with fail
            go_roundw
            case rel => first | exact ⟨k + 1, by omega, by go_num, hb9⟩ | ((repeat apply Exists.intro); exact ⟨⟨k + 1, by omega, by go_num, hb9⟩, rfl⟩)
            case measure => first | (simp [intOf]; done) | (simp [intOf]; omega)
          · have hout : k < q ∨ q + d.size ≤ k := by omega
            rw [hs2 hout] at hc2
            clear hs1 hs2
            generalize (Mm.loadM (fs l) s k 1).isSome = b1 at *
            generalize (Mm.loadM (fs l) s k 1).getD 0 = v1 at *
            by_cases i1 : q ≤ k
            · have i1' : (q : Int) ≤ (k : Int) := by omega
              have i2' : ¬ (k : Int) < (q : Int) + (d.size : Int) := by omega
              go_wp2_with (refine ls rfl rfl rfl hs sp ?_)
              refine (hc1 _ st').mono ?_
              rintro e w8 ⟨rfl, hx8⟩
              have hb8 := hbr.trans (hx8.mono hbr.size)
              have st8 := st'.below hx8
              have t8 := t'.below hx8
              have sp8 := st8.sp
              clear hc1 sp st' t' hx8
              go_wp2_with (refine ls rfl rfl rfl hs sp8 ?_)
              refine (hc2 _ t8).mono ?_
              rintro e w9 ⟨rfl, hx9⟩
              have hb9 := hb8.trans (hx9.mono hb8.size)
              have st9 := st8.below hx9
              obtain ⟨c0, c1', c2⟩ := st9.cells
              dsimp only at c0 c1' c2
              clear hc2 sp8 st8 t8 hx9 hb8 hbr st9
              go_wp2_with fail
              go_roundw
              case rel => first | exact ⟨k + 1, by omega, by go_num, hb9⟩ | ((repeat apply Exists.intro); exact ⟨⟨k + 1, by omega, by go_num, hb9⟩, rfl⟩)
              case measure => first | (simp [intOf]; done) | (simp [intOf]; omega)
            · have i1' : ¬ (q : Int) ≤ (k : Int) := by omega
              go_wp2_with (refine ls rfl rfl rfl hs sp ?_)
              refine (hc1 _ st').mono ?_
              rintro e w8 ⟨rfl, hx8⟩
              have hb8 := hbr.trans (hx8.mono hbr.size)
              have st8 := st'.below hx8
              have t8 := t'.below hx8
              have sp8 := st8.sp
              clear hc1 sp st' t' hx8
              go_wp2_with (refine ls rfl rfl rfl hs sp8 ?_)
              refine (hc2 _ t8).mono ?_
              rintro e w9 ⟨rfl, hx9⟩
              have hb9 := hb8.trans (hx9.mono hb8.size)
              have st9 := st8.below hx9
              obtain ⟨c0, c1', c2⟩ := st9.cells
              dsimp only at c0 c1' c2
              clear hc2 sp8 st8 t8 hx9 hb8 hbr st9
              go_wp2_with fail
              go_roundw
              case rel => first | exact ⟨k + 1, by omega, by go_num, hb9⟩ | ((repeat apply Exists.intro); exact ⟨⟨k + 1, by omega, by go_num, hb9⟩, rfl⟩)
              case measure => first | (simp [intOf]; done) | (simp [intOf]; omega)
        · obtain rfl : k = 2048 := by omega
          go_wp2_with fail
          go_ret
          exact ⟨rfl, (st.below hbr).b⟩

set_option maxRecDepth 100000 in
theorem lifted (os : Os) (started : os.Started) (H : Type) (enc : TypeId × Value → H) :
    ReturnsInHanded {} Try.checked os 11 .any (Rows.mmuBackSpec.pre6 enc Try.prog Try.f11 Rows.mmuBackRow.domain false) (Rows.mmuBackSpec.post enc Try.prog Try.f11 false true false false) := by
  refine returnsInHanded_of_change_sized (C := Try.checked) own started (by kernel_rfl) Try.func11
    (ChangeSpec.witness6 (enc := enc) (C := Try.checked) false ⟨#[], #[.slice none 0 0, .agg (sc s0), .agg #[.int .u32 0, .int .i64 0, .string ByteArray.empty]], []⟩ 8 (by kernel_rfl) (by kernel_rfl) (by kernel_rfl) (by kernel_rfl)) ?_
  intro W base args ds gs before hval0 hW hcnd hsz0 _
  have hval : ∀ (j : Nat) t v, Try.f11.params[j]? = some t → args[j]? = some v → Value.okWide Try.prog W .any base t v := hval0
  have hsz : (DataW.weightsEach Try.prog (Try.f11.params.toList ++ Rows.mmuBackSpec.plain.varTypes Try.prog) (ds ++ gs)).all (· ≤ reachBytes) = true := hsz0
  have hW' := hW
  obtain ⟨p, q, hA0, hV, rfl, hfz, hnd⟩ := hW
  have hA : DataW.TrodAll enc Try.prog W 0 (fun _ => true) true Try.f11.params.toList args.toList ds p := hA0
  rw [Try.params11] at hA hval hsz
  obtain ⟨v0, vs0, d0, ds0, p0, q0, hargs, rfl, rfl, h0, r0⟩ := trodAll_cons hA
  obtain ⟨v1, vs1, d1, ds1, p1, q1, rfl, rfl, rfl, h1, r1⟩ := trodAll_cons r0
  obtain ⟨v2, vs2, d2, ds2, p2, q2, rfl, rfl, rfl, h2, r2⟩ := trodAll_cons r1
  obtain ⟨rfl, rfl, rfl⟩ := trodAll_nil r2
  obtain rfl : args = #[v0, v1, v2] := by cases args; simp_all
  obtain ⟨rfl, rfl⟩ := trodVars_none hV
  obtain ⟨a0, len0, cap0, rfl⟩ := okWide_slice Try.underlying53 (hval 0 53 v0 rfl rfl)
  have k0 := h0
  have lt0 : ∀ x ∈ p0, x.block < W.heap.size := by obtain ⟨m, hm⟩ := k0; exact DataW.trod_lt m _ _ _ hm
  obtain ⟨l0, t0, m0, s0⟩ := texts_arg hsz (j := 0) rfl rfl h0
  have n0 := nil_arg h0
  obtain ⟨x1, rfl, ok1⟩ := okSpace (hval 1 57 v1 rfl rfl) h1
  have k1 := h1
  have lt1 : ∀ x ∈ p1, x.block < W.heap.size := by obtain ⟨m, hm⟩ := k1; exact DataW.trod_lt m _ _ _ hm
  obtain ⟨x2, rfl, ok2⟩ := okSpan (hval 2 70 v2 rfl rfl) h2
  have k2 := h2
  have lt2 : ∀ x ∈ p2, x.block < W.heap.size := by obtain ⟨m, hm⟩ := k2; exact DataW.trod_lt m _ _ _ hm
  clear hA0 hval0 hsz0
  refine (walk a0 len0 cap0 l0 x1 x2 ok1 ok2 W t0 m0 s0 n0).mono fun e W' ⟨he, bel⟩ => ?_
  subst he
  exact ⟨_, rfl, _, _, _, [], _, [], hW', trodAll_mk1 (shut_bool Try.underlying4 _), (trodAll_cons_mk (Below.trod laidOut (by kernel_rfl) (of_decide_eq_true (by kernel_rfl)) k0 bel lt0) (trodAll_cons_mk (Below.trod laidOut (by kernel_rfl) (of_decide_eq_true (by kernel_rfl)) k1 bel lt1) (trodAll_cons_mk (Below.trod laidOut (by kernel_rfl) (of_decide_eq_true (by kernel_rfl)) k2 bel lt2) trodAll_mk0))), rfl, bel.frame _, fun h => by cases h⟩

theorem over : Rows.mmuBackRow.holds Try.pinned (OpenSpec.ofChange Rows.mmuBackSpec) :=
  OpenClaim.holds_of_wide 11 Try.f11 rfl rfl rfl rfl rfl rfl rfl ⟨rfl, rfl, rfl, rfl, rfl⟩ rfl rfl rfl rfl rfl (by kernel_rfl) Try.func11 (by kernel_rfl)
    (of_decide_eq_true (by kernel_rfl)) (by unfold Func.isWrapper; first | (rw [if_pos (by decide +kernel)]; kernel_rfl) | (rw [if_neg (by decide +kernel)]; exact ⟨rfl, rfl⟩))
    (fun os started H enc _ => lifted os started H enc)

/-- the statement -/
theorem proved : Rows.MmuBackSaid := over
end Go.Proofs.Ytkbelpkmlmfedaa.mmuBack
