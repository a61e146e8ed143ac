/-
  For all frames, every space, address, count and bytes the law MmuCopies of package mmu returns true: what is copied, and memory with bytes laid, is what the document says; no condition.
-/
import Derived.Test.YtkbelpkmlmfedaaRows
import Derived.WalkKit
import Derived.ProofKit
import Derived.OpenShut
import Derived.ShutString
import Derived.Test.YtkbelpkmlmfedaaLw
import Derived.Test.YtkbelpkmlmfedaaMg
import Derived.Test.YtkbelpkmlmfedaaMk
namespace Go.Proofs.Ytkbelpkmlmfedaa.mmuCopies
open Go.ChangeShapes Go.WideShapes Go.ChangeAt Go.RowKit
open Go.ChangeMaps (open_string shut_string)
open _root_.Go.Proofs.Ytkbelpkmlmfedaa.Xe
open _root_.Go.Proofs.Ytkbelpkmlmfedaa.Nm
open _root_.Go.Proofs.Ytkbelpkmlmfedaa.Mo
set_option linter.unusedVariables false
set_option linter.unusedSimpArgs false

theorem own : ownKnob Try.prog.godebug = none := by kernel_rfl
/-- the law's boxes: the space, what is asked; the frames -/
structure Gx (w : World) (A : Option Addr) (len cap : Nat) (l : List ByteArray) (s : Mm.Sp) (x : Span) (wr : World) : Prop where
  sp : Own wr w.heap.size 57 (sc s)
  by_ : Own wr (w.heap.size + 1) 70 x.cs
  t : Ts wr A len l
  b : Below w.heap.size w wr
theorem Gx.below {w : World} {A : Option Addr} {len cap : Nat} {l : List ByteArray} {s : Mm.Sp} {x : Span} {wr w1 : World} (o : Gx w A len cap l s x wr) (hx : Below wr.heap.size wr w1) : Gx w A len cap l s x w1 :=
  ⟨(hx.block _ o.sp.lt).trans o.sp, (hx.block _ o.by_.lt).trans o.by_, o.t.below hx, o.b.trans (hx.mono o.b.size)⟩
theorem Gx.cells {w : World} {A : Option Addr} {len cap : Nat} {l : List ByteArray} {s : Mm.Sp} {x : Span} {wr : World} (o : Gx w A len cap l s x wr) :
    wr.cell? ⟨w.heap.size + 1, 0, none⟩ = some (.int .u32 (x.q : Nat)) ∧ wr.cell? ⟨w.heap.size + 1, 1, none⟩ = some (.int .i64 x.n) ∧ wr.cell? ⟨w.heap.size + 1, 2, none⟩ = some (.string x.d) :=
  ⟨o.by_.cell 0, o.by_.cell 1, o.by_.cell 2⟩
theorem Gx.new {w : World} {A : Option Addr} {len cap : Nat} {l : List ByteArray} {s : Mm.Sp} {x : Span} (ht : Ts w A len l) : Gx w A len cap l s x ((w.alloc (Obj.cells (sc s) 57)).alloc (Obj.cells x.cs 70)) := by
  have h2 := Own.new (w.alloc (Obj.cells (sc s) 57)) 70 x.cs
  rw [show (w.alloc (Obj.cells (sc s) 57)).heap.size = w.heap.size + 1 from by simp] at h2
  have hb : Below w.heap.size w ((w.alloc (Obj.cells (sc s) 57)).alloc (Obj.cells x.cs 70)) := ((Below.refl _ w).alloc (Nat.le_refl _) _).alloc (by simp) _
  exact ⟨(Own.new w 57 (sc s)).alloc _, h2, ht.below hb, hb⟩
set_option maxRecDepth 100000 in
set_option maxHeartbeats 4000000 in
theorem walk (A : Option Addr) (len cap : Nat) (l : List ByteArray) (s : Mm.Sp) (x : Span) (hs : SpOk s) (hx : x.Ok) (w : World) (ht : Ts w A len l) (hm : len ≤ 9223372036854775807) (hsz : ∀ k, (nth l k).size ≤ 4611686018427387904) (hn : A = none → len = 0 ∧ cap = 0) :
    Calls Try.prog 10 #[.slice A len cap, .agg (sc s), .agg x.cs] w fun e w' => e = .returned (.bool true) ∧ Below w.heap.size w w' := by
  have st := Gx.new (cap := cap) (s := s) (x := x) ht
  obtain ⟨V, hV⟩ : ∃ V, V = (w.alloc (Obj.cells (sc s) 57)).alloc (Obj.cells x.cs 70) := ⟨_, rfl⟩
  rw [← hV] at st
  have HV := Lib.hid hV
  clear hV ht
  have hgr := fun wr (o : Gx w A len cap l s x wr) => great_any A len cap l wr o.t hm hsz
  clear hsz
  go_enter Try.func10, Try.ntmps10
  go_wp2_with fail
  change Calls _ _ _ ((w.alloc (Obj.cells (sc s) 57)).alloc (Obj.cells x.cs 70)) _
  rw [← HV.out]
  refine (alive_any _).mono ?_
  rintro e w1 ⟨rfl, hx1⟩
  replace st := st.below hx1
  clear HV hx1
  go_wp2_with fail
  refine (hgr _ st).mono ?_
  rintro e w2 ⟨hg, rfl⟩
  clear hgr
  unfold GreatIs at hg
  rcases hg with rfl | ⟨rfl, hbk⟩
  · go_wp2_with fail
    go_ret
    exact ⟨rfl, st.b⟩
  · have hlen : len ≤ 5000 := by
      have := len_le_bulk l
      have := st.t.1
      omega
    have hT : ∀ wr, Gx w A len cap l s x wr → Tz wr A len cap l := fun wr o => ⟨o.t, hn, by omega⟩
    obtain ⟨q, n, d⟩ := x
    obtain ⟨hq, hn0, hn1, hd⟩ := hx
    dsimp only at *
    by_cases hd3 : 3000 < d.size
    · have hd3' : (3000 : Int) < (d.size : Int) := by omega
      obtain ⟨c0, c1, c2⟩ := st.cells
      dsimp only at c0 c1 c2
      go_wp2_with fail
      go_ret
      exact ⟨rfl, st.b⟩
    have hd3' : ¬ (3000 : Int) < (d.size : Int) := by omega
    have h38 := fun wr o => copy_any A len cap l s hs q n wr (hT wr o) hq hn0 hn1
    have h39 := fun wr o => rcopy_any A len cap l s hs q n wr (hT wr o) hq hn0 hn1
    unfold CopyIs at h38 h39
    have h40 := fun wr o => lay_any A len cap l s hs q d wr (hT wr o) hq hd
    have h41 := fun wr o => rlay_any A len cap l s hs q d wr (hT wr o) hq hd
    unfold MemIs at h40 h41
    generalize Mm.copyM (fs l) s q n = r2 at *
    generalize Mm.layM (fs l) s q (toL d) = r3 at *
    generalize ofB (r2.getD []) = f4 at *
    generalize r2.isSome = f5 at *
    generalize r3.isSome = f6 at *
    have t0 := str_yes (rfl : f4 = f4)
    clear hT hbk hlen hn hm hq hn0 hn1 hd hd3
    obtain ⟨c0, c1, c2⟩ := st.cells
    dsimp only at c0 c1 c2
    have sp := st.sp
    go_wp2_with (refine ls rfl rfl rfl hs sp ?_)
    clear c0 c1 c2 sp
    refine (h38 _ st).mono ?_
    rintro e w3 ⟨rfl, hx3⟩
    replace st := st.below hx3
    clear h38
    clear hx3
    obtain ⟨c0, c1, c2⟩ := st.cells
    dsimp only at c0 c1 c2
    have sp := st.sp
    go_wp2_with (refine ls rfl rfl rfl hs sp ?_)
    clear c0 c1 c2 sp
    refine (h39 _ st).mono ?_
    rintro e w3 ⟨rfl, hx3⟩
    replace st := st.below hx3
    clear h39
    clear hx3
    obtain ⟨c0, c1, c2⟩ := st.cells
    dsimp only at c0 c1 c2
    have sp := st.sp
    go_wp2_with (refine ls rfl rfl rfl hs sp ?_)
    clear c0 c1 c2 sp
    refine (h40 _ st).mono ?_
    rintro e w3 ⟨⟨A1, n1, c1, L1, rfl, hr1, hm1, hf1⟩, hx3⟩
    replace st := st.below hx3
    have t1 := hr1.ts
    clear h40 hr1
    clear hx3
    obtain ⟨c0, c1, c2⟩ := st.cells
    dsimp only at c0 c1 c2
    have sp := st.sp
    go_wp2_with (refine ls rfl rfl rfl hs sp ?_)
    clear c0 c1 c2 sp
    refine (h41 _ st).mono ?_
    rintro e w3 ⟨⟨A2, n2, c2, L2, rfl, hr2, hm2, hf2⟩, hx3⟩
    replace st := st.below hx3
    have t2 := hr2.ts
    replace t1 := t1.below hx3
    clear h41 hr2
    clear hx3
    have hsm := same_any A1 A2 n1 c1 n2 c2 L1 L2 w3 t1 t2 (by omega) (by omega)
    rw [decide_eq_true (fs_inj (hf1.trans hf2.symm))] at hsm
    clear t1 t2 hf1 hf2 hm1 hm2
    go_wp2_with fail
    refine hsm.mono ?_
    rintro e w4 ⟨rfl, hd⟩
    go_wp2_with fail
    go_ret
    exact ⟨rfl, below_dr st.b hd⟩

set_option maxRecDepth 100000 in
theorem lifted (os : Os) (started : os.Started) (H : Type) (enc : TypeId × Value → H) :
    ReturnsInHanded {} Try.checked os 10 .any (Rows.mmuCopiesSpec.pre6 enc Try.prog Try.f10 Rows.mmuCopiesRow.domain false) (Rows.mmuCopiesSpec.post enc Try.prog Try.f10 false true false false) := by
  refine returnsInHanded_of_change_sized (C := Try.checked) own started (by kernel_rfl) Try.func10
    (ChangeSpec.witness6 (enc := enc) (C := Try.checked) false ⟨#[], #[.slice none 0 0, .agg (sc s0), .agg #[.int .u32 0, .int .i64 0, .string ByteArray.empty]], []⟩ 8 (by kernel_rfl) (by kernel_rfl) (by kernel_rfl) (by kernel_rfl)) ?_
  intro W base args ds gs before hval0 hW hcnd hsz0 _
  have hval : ∀ (j : Nat) t v, Try.f10.params[j]? = some t → args[j]? = some v → Value.okWide Try.prog W .any base t v := hval0
  have hsz : (DataW.weightsEach Try.prog (Try.f10.params.toList ++ Rows.mmuCopiesSpec.plain.varTypes Try.prog) (ds ++ gs)).all (· ≤ reachBytes) = true := hsz0
  have hW' := hW
  obtain ⟨p, q, hA0, hV, rfl, hfz, hnd⟩ := hW
  have hA : DataW.TrodAll enc Try.prog W 0 (fun _ => true) true Try.f10.params.toList args.toList ds p := hA0
  rw [Try.params10] at hA hval hsz
  obtain ⟨v0, vs0, d0, ds0, p0, q0, hargs, rfl, rfl, h0, r0⟩ := trodAll_cons hA
  obtain ⟨v1, vs1, d1, ds1, p1, q1, rfl, rfl, rfl, h1, r1⟩ := trodAll_cons r0
  obtain ⟨v2, vs2, d2, ds2, p2, q2, rfl, rfl, rfl, h2, r2⟩ := trodAll_cons r1
  obtain ⟨rfl, rfl, rfl⟩ := trodAll_nil r2
  obtain rfl : args = #[v0, v1, v2] := by cases args; simp_all
  obtain ⟨rfl, rfl⟩ := trodVars_none hV
  obtain ⟨a0, len0, cap0, rfl⟩ := okWide_slice Try.underlying53 (hval 0 53 v0 rfl rfl)
  have k0 := h0
  have lt0 : ∀ x ∈ p0, x.block < W.heap.size := by obtain ⟨m, hm⟩ := k0; exact DataW.trod_lt m _ _ _ hm
  obtain ⟨l0, t0, m0, s0⟩ := texts_arg hsz (j := 0) rfl rfl h0
  have n0 := nil_arg h0
  obtain ⟨x1, rfl, ok1⟩ := okSpace (hval 1 57 v1 rfl rfl) h1
  have k1 := h1
  have lt1 : ∀ x ∈ p1, x.block < W.heap.size := by obtain ⟨m, hm⟩ := k1; exact DataW.trod_lt m _ _ _ hm
  obtain ⟨x2, rfl, ok2⟩ := okSpan (hval 2 70 v2 rfl rfl) h2
  have k2 := h2
  have lt2 : ∀ x ∈ p2, x.block < W.heap.size := by obtain ⟨m, hm⟩ := k2; exact DataW.trod_lt m _ _ _ hm
  clear hA0 hval0 hsz0
  refine (walk a0 len0 cap0 l0 x1 x2 ok1 ok2 W t0 m0 s0 n0).mono fun e W' ⟨he, bel⟩ => ?_
  subst he
  exact ⟨_, rfl, _, _, _, [], _, [], hW', trodAll_mk1 (shut_bool Try.underlying4 _), (trodAll_cons_mk (Below.trod laidOut (by kernel_rfl) (of_decide_eq_true (by kernel_rfl)) k0 bel lt0) (trodAll_cons_mk (Below.trod laidOut (by kernel_rfl) (of_decide_eq_true (by kernel_rfl)) k1 bel lt1) (trodAll_cons_mk (Below.trod laidOut (by kernel_rfl) (of_decide_eq_true (by kernel_rfl)) k2 bel lt2) trodAll_mk0))), rfl, bel.frame _, fun h => by cases h⟩

theorem over : Rows.mmuCopiesRow.holds Try.pinned (OpenSpec.ofChange Rows.mmuCopiesSpec) :=
  OpenClaim.holds_of_wide 10 Try.f10 rfl rfl rfl rfl rfl rfl rfl ⟨rfl, rfl, rfl, rfl, rfl⟩ rfl rfl rfl rfl rfl (by kernel_rfl) Try.func10 (by kernel_rfl)
    (of_decide_eq_true (by kernel_rfl)) (by unfold Func.isWrapper; first | (rw [if_pos (by decide +kernel)]; kernel_rfl) | (rw [if_neg (by decide +kernel)]; exact ⟨rfl, rfl⟩))
    (fun os started H enc _ => lifted os started H enc)

/-- the statement -/
theorem proved : Rows.MmuCopiesSaid := over
end Go.Proofs.Ytkbelpkmlmfedaa.mmuCopies
