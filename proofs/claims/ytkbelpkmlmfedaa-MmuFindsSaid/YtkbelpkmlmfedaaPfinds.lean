/-
  For all frames, every space and every address, size and number the law MmuFinds of package mmu returns true: what is found, loaded and stored is what the document says; no condition.
-/
import Derived.Test.YtkbelpkmlmfedaaRows
import Derived.WalkKit
import Derived.ProofKit
import Derived.OpenShut
import Derived.ShutString
import Derived.Test.YtkbelpkmlmfedaaLw
import Derived.Test.YtkbelpkmlmfedaaMg
import Derived.Test.YtkbelpkmlmfedaaMk
namespace Go.Proofs.Ytkbelpkmlmfedaa.mmuFinds
open Go.ChangeShapes Go.WideShapes Go.ChangeAt Go.RowKit
open Go.ChangeMaps (open_string shut_string)
open _root_.Go.Proofs.Ytkbelpkmlmfedaa.Xe
open _root_.Go.Proofs.Ytkbelpkmlmfedaa.Nm
open _root_.Go.Proofs.Ytkbelpkmlmfedaa.Mo
set_option linter.unusedVariables false
set_option linter.unusedSimpArgs false

theorem own : ownKnob Try.prog.godebug = none := by kernel_rfl
/-- the law's boxes: the space, what is asked; the frames -/
structure Fx (w : World) (A : Option Addr) (len cap : Nat) (l : List ByteArray) (s : Mm.Sp) (x : By) (wr : World) : Prop where
  sp : Own wr w.heap.size 57 (sc s)
  by_ : Own wr (w.heap.size + 1) 59 x.cs
  t : Ts wr A len l
  b : Below w.heap.size w wr
theorem Fx.below {w : World} {A : Option Addr} {len cap : Nat} {l : List ByteArray} {s : Mm.Sp} {x : By} {wr w1 : World} (o : Fx w A len cap l s x wr) (hx : Below wr.heap.size wr w1) : Fx w A len cap l s x w1 :=
  ⟨(hx.block _ o.sp.lt).trans o.sp, (hx.block _ o.by_.lt).trans o.by_, o.t.below hx, o.b.trans (hx.mono o.b.size)⟩
theorem Fx.cells {w : World} {A : Option Addr} {len cap : Nat} {l : List ByteArray} {s : Mm.Sp} {x : By} {wr : World} (o : Fx w A len cap l s x wr) :
    wr.cell? ⟨w.heap.size + 1, 0, none⟩ = some (.int .u32 (x.q : Nat)) ∧ wr.cell? ⟨w.heap.size + 1, 1, none⟩ = some (.int .i64 x.n) ∧ wr.cell? ⟨w.heap.size + 1, 2, none⟩ = some (.bool x.w) ∧ wr.cell? ⟨w.heap.size + 1, 3, none⟩ = some (.int .u32 (x.v : Nat)) :=
  ⟨o.by_.cell 0, o.by_.cell 1, o.by_.cell 2, o.by_.cell 3⟩
theorem Fx.new {w : World} {A : Option Addr} {len cap : Nat} {l : List ByteArray} {s : Mm.Sp} {x : By} (ht : Ts w A len l) : Fx w A len cap l s x ((w.alloc (Obj.cells (sc s) 57)).alloc (Obj.cells x.cs 59)) := by
  have h2 := Own.new (w.alloc (Obj.cells (sc s) 57)) 59 x.cs
  rw [show (w.alloc (Obj.cells (sc s) 57)).heap.size = w.heap.size + 1 from by simp] at h2
  have hb : Below w.heap.size w ((w.alloc (Obj.cells (sc s) 57)).alloc (Obj.cells x.cs 59)) := ((Below.refl _ w).alloc (Nat.le_refl _) _).alloc (by simp) _
  exact ⟨(Own.new w 57 (sc s)).alloc _, h2, ht.below hb, hb⟩
set_option maxRecDepth 100000 in
set_option maxHeartbeats 4000000 in
theorem walk (A : Option Addr) (len cap : Nat) (l : List ByteArray) (s : Mm.Sp) (x : By) (hs : SpOk s) (hx : x.Ok) (w : World) (ht : Ts w A len l) (hm : len ≤ 9223372036854775807) (hsz : ∀ k, (nth l k).size ≤ 4611686018427387904) (hn : A = none → len = 0 ∧ cap = 0) :
    Calls Try.prog 9 #[.slice A len cap, .agg (sc s), .agg x.cs] w fun e w' => e = .returned (.bool true) ∧ Below w.heap.size w w' := by
  have st := Fx.new (cap := cap) (s := s) (x := x) ht
  obtain ⟨V, hV⟩ : ∃ V, V = (w.alloc (Obj.cells (sc s) 57)).alloc (Obj.cells x.cs 59) := ⟨_, rfl⟩
  rw [← hV] at st
  have HV := Lib.hid hV
  clear hV ht
  have hgr := fun wr (o : Fx w A len cap l s x wr) => great_any A len cap l wr o.t hm hsz
  clear hsz
  go_enter Try.func9, Try.ntmps9
  go_wp2_with fail
  change Calls _ _ _ ((w.alloc (Obj.cells (sc s) 57)).alloc (Obj.cells x.cs 59)) _
  rw [← HV.out]
  refine (alive_any _).mono ?_
  rintro e w1 ⟨rfl, hx1⟩
  replace st := st.below hx1
  clear HV hx1
  go_wp2_with fail
  refine (hgr _ st).mono ?_
  rintro e w2 ⟨hg, rfl⟩
  clear hgr
  unfold GreatIs at hg
  rcases hg with rfl | ⟨rfl, hbk⟩
  · go_wp2_with fail
    go_ret
    exact ⟨rfl, st.b⟩
  · have hlen : len ≤ 5000 := by
      have := len_le_bulk l
      have := st.t.1
      omega
    have hT : ∀ wr, Fx w A len cap l s x wr → Tz wr A len cap l := fun wr o => ⟨o.t, hn, by omega⟩
    obtain ⟨q, n, wt, v⟩ := x
    obtain ⟨hq, hn0, hn1, hv⟩ := hx
    dsimp only at *
    have h31 := fun wr => find_any s hs q n wt wr hq hn0 hn1
    have h32 := fun wr => rfind_any s hs q n wt wr hq hn0 hn1
    unfold FindIs at h31 h32
    have h33 := fun wr o => load_any A len cap l s hs q n wr (hT wr o) hq hn0 hn1
    have h34 := fun wr o => rload_any A len cap l s hs q n wr (hT wr o) hq hn0 hn1
    unfold LoadIs at h33 h34
    have h35 := fun wr o => store_any A len cap l s hs q n v wr (hT wr o) hq hn0 hn1 hv
    have h36 := fun wr o => rstore_any A len cap l s hs q n v wr (hT wr o) hq hn0 hn1 hv
    unfold MemIs at h35 h36
    generalize Mm.find s q n wt = r1 at *
    generalize Mm.loadM (fs l) s q n = r2 at *
    generalize Mm.storeM (fs l) s q n v = r3 at *
    generalize (r1.map (·.1)).getD 0 = f1 at *
    generalize (r1.map (·.2)).getD 0 = f2 at *
    generalize r1.isSome = f3 at *
    generalize r2.getD 0 = f4 at *
    generalize r2.isSome = f5 at *
    generalize r3.isSome = f6 at *
    clear hT hbk hlen hn hm hq hn0 hn1 hv
    obtain ⟨c0, c1, c2, c3⟩ := st.cells
    dsimp only at c0 c1 c2 c3
    have sp := st.sp
    go_wp2_with (refine ls rfl rfl rfl hs sp ?_)
    clear c0 c1 c2 c3 sp
    refine (h31 _).mono ?_
    rintro e w3 ⟨rfl, hx3⟩
    replace st := st.below hx3
    clear hx3
    clear h31
    obtain ⟨c0, c1, c2, c3⟩ := st.cells
    dsimp only at c0 c1 c2 c3
    have sp := st.sp
    go_wp2_with (refine ls rfl rfl rfl hs sp ?_)
    clear c0 c1 c2 c3 sp
    refine (h32 _).mono ?_
    rintro e w3 ⟨rfl, hx3⟩
    replace st := st.below hx3
    clear hx3
    clear h32
    obtain ⟨c0, c1, c2, c3⟩ := st.cells
    dsimp only at c0 c1 c2 c3
    have sp := st.sp
    go_wp2_with (refine ls rfl rfl rfl hs sp ?_)
    clear c0 c1 c2 c3 sp
    refine (h33 _ st).mono ?_
    rintro e w3 ⟨rfl, hx3⟩
    replace st := st.below hx3
    clear hx3
    clear h33
    obtain ⟨c0, c1, c2, c3⟩ := st.cells
    dsimp only at c0 c1 c2 c3
    have sp := st.sp
    go_wp2_with (refine ls rfl rfl rfl hs sp ?_)
    clear c0 c1 c2 c3 sp
    refine (h34 _ st).mono ?_
    rintro e w3 ⟨rfl, hx3⟩
    replace st := st.below hx3
    clear hx3
    clear h34
    obtain ⟨c0, c1, c2, c3⟩ := st.cells
    dsimp only at c0 c1 c2 c3
    have sp := st.sp
    go_wp2_with (refine ls rfl rfl rfl hs sp ?_)
    clear c0 c1 c2 c3 sp
    refine (h35 _ st).mono ?_
    rintro e w3 ⟨⟨A1, n1, c1, L1, rfl, hr1, hm1, hf1⟩, hx3⟩
    replace st := st.below hx3
    clear hx3
    have t1 := hr1.ts
    clear h35 hr1
    obtain ⟨c0, c1, c2, c3⟩ := st.cells
    dsimp only at c0 c1 c2 c3
    have sp := st.sp
    go_wp2_with (refine ls rfl rfl rfl hs sp ?_)
    clear c0 c1 c2 c3 sp
    refine (h36 _ st).mono ?_
    rintro e w3 ⟨⟨A2, n2, c2, L2, rfl, hr2, hm2, hf2⟩, hx3⟩
    replace st := st.below hx3
    have t2 := hr2.ts
    replace t1 := t1.below hx3
    clear hx3
    clear h36 hr2
    have hsm := same_any A1 A2 n1 c1 n2 c2 L1 L2 w3 t1 t2 (by omega) (by omega)
    rw [decide_eq_true (fs_inj (hf1.trans hf2.symm))] at hsm
    clear t1 t2 hf1 hf2 hm1 hm2
    go_wp2_with fail
    refine hsm.mono ?_
    rintro e w4 ⟨rfl, hd⟩
    go_wp2_with fail
    go_ret
    exact ⟨rfl, below_dr st.b hd⟩

set_option maxRecDepth 100000 in
theorem lifted (os : Os) (started : os.Started) (H : Type) (enc : TypeId × Value → H) :
    ReturnsInHanded {} Try.checked os 9 .any (Rows.mmuFindsSpec.pre6 enc Try.prog Try.f9 Rows.mmuFindsRow.domain false) (Rows.mmuFindsSpec.post enc Try.prog Try.f9 false true false false) := by
  refine returnsInHanded_of_change_sized (C := Try.checked) own started (by kernel_rfl) Try.func9
    (ChangeSpec.witness6 (enc := enc) (C := Try.checked) false ⟨#[], #[.slice none 0 0, .agg (sc s0), .agg #[.int .u32 0, .int .i64 0, .bool false, .int .u32 0]], []⟩ 8 (by kernel_rfl) (by kernel_rfl) (by kernel_rfl) (by kernel_rfl)) ?_
  intro W base args ds gs before hval0 hW hcnd hsz0 _
  have hval : ∀ (j : Nat) t v, Try.f9.params[j]? = some t → args[j]? = some v → Value.okWide Try.prog W .any base t v := hval0
  have hsz : (DataW.weightsEach Try.prog (Try.f9.params.toList ++ Rows.mmuFindsSpec.plain.varTypes Try.prog) (ds ++ gs)).all (· ≤ reachBytes) = true := hsz0
  have hW' := hW
  obtain ⟨p, q, hA0, hV, rfl, hfz, hnd⟩ := hW
  have hA : DataW.TrodAll enc Try.prog W 0 (fun _ => true) true Try.f9.params.toList args.toList ds p := hA0
  rw [Try.params9] at hA hval hsz
  obtain ⟨v0, vs0, d0, ds0, p0, q0, hargs, rfl, rfl, h0, r0⟩ := trodAll_cons hA
  obtain ⟨v1, vs1, d1, ds1, p1, q1, rfl, rfl, rfl, h1, r1⟩ := trodAll_cons r0
  obtain ⟨v2, vs2, d2, ds2, p2, q2, rfl, rfl, rfl, h2, r2⟩ := trodAll_cons r1
  obtain ⟨rfl, rfl, rfl⟩ := trodAll_nil r2
  obtain rfl : args = #[v0, v1, v2] := by cases args; simp_all
  obtain ⟨rfl, rfl⟩ := trodVars_none hV
  obtain ⟨a0, len0, cap0, rfl⟩ := okWide_slice Try.underlying53 (hval 0 53 v0 rfl rfl)
  have k0 := h0
  have lt0 : ∀ x ∈ p0, x.block < W.heap.size := by obtain ⟨m, hm⟩ := k0; exact DataW.trod_lt m _ _ _ hm
  obtain ⟨l0, t0, m0, s0⟩ := texts_arg hsz (j := 0) rfl rfl h0
  have n0 := nil_arg h0
  obtain ⟨x1, rfl, ok1⟩ := okSpace (hval 1 57 v1 rfl rfl) h1
  have k1 := h1
  have lt1 : ∀ x ∈ p1, x.block < W.heap.size := by obtain ⟨m, hm⟩ := k1; exact DataW.trod_lt m _ _ _ hm
  obtain ⟨x2, rfl, ok2⟩ := okBy (hval 2 59 v2 rfl rfl) h2
  have k2 := h2
  have lt2 : ∀ x ∈ p2, x.block < W.heap.size := by obtain ⟨m, hm⟩ := k2; exact DataW.trod_lt m _ _ _ hm
  clear hA0 hval0 hsz0
  refine (walk a0 len0 cap0 l0 x1 x2 ok1 ok2 W t0 m0 s0 n0).mono fun e W' ⟨he, bel⟩ => ?_
  subst he
  exact ⟨_, rfl, _, _, _, [], _, [], hW', trodAll_mk1 (shut_bool Try.underlying4 _), (trodAll_cons_mk (Below.trod laidOut (by kernel_rfl) (of_decide_eq_true (by kernel_rfl)) k0 bel lt0) (trodAll_cons_mk (Below.trod laidOut (by kernel_rfl) (of_decide_eq_true (by kernel_rfl)) k1 bel lt1) (trodAll_cons_mk (Below.trod laidOut (by kernel_rfl) (of_decide_eq_true (by kernel_rfl)) k2 bel lt2) trodAll_mk0))), rfl, bel.frame _, fun h => by cases h⟩

theorem over : Rows.mmuFindsRow.holds Try.pinned (OpenSpec.ofChange Rows.mmuFindsSpec) :=
  OpenClaim.holds_of_wide 9 Try.f9 rfl rfl rfl rfl rfl rfl rfl ⟨rfl, rfl, rfl, rfl, rfl⟩ rfl rfl rfl rfl rfl (by kernel_rfl) Try.func9 (by kernel_rfl)
    (of_decide_eq_true (by kernel_rfl)) (by unfold Func.isWrapper; first | (rw [if_pos (by decide +kernel)]; kernel_rfl) | (rw [if_neg (by decide +kernel)]; exact ⟨rfl, rfl⟩))
    (fun os started H enc _ => lifted os started H enc)

/-- the statement -/
theorem proved : Rows.MmuFindsSaid := over
end Go.Proofs.Ytkbelpkmlmfedaa.mmuFinds
