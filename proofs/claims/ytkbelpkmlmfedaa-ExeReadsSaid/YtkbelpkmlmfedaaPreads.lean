/-
  For every text of bytes the law ExeReads of package exe returns true: what the code reads of it, or the error, is what the document reads, and the program that is read has just these bytes; no condition.
-/
import Derived.Test.YtkbelpkmlmfedaaRows
import Derived.WalkKit
import Derived.ProofKit
import Derived.OpenShut
import Derived.ShutString
import Derived.Test.YtkbelpkmlmfedaaLw
import Derived.Test.YtkbelpkmlmfedaaEf
import Derived.Test.YtkbelpkmlmfedaaEq
namespace Go.Proofs.Ytkbelpkmlmfedaa.exeReads
open Go.ChangeShapes Go.WideShapes Go.ChangeAt Go.RowKit
open Go.ChangeMaps (open_string shut_string)
open _root_.Go.Proofs.Ytkbelpkmlmfedaa.Xe
open _root_.Go.Proofs.Ytkbelpkmlmfedaa.Nm
set_option linter.unusedVariables false
set_option linter.unusedSimpArgs false

theorem own : ownKnob Try.prog.godebug = none := by kernel_rfl
theorem of_same {b : ByteArray} {x y : Xv} {l m : List Nat} (hl : l.length = x.n) (hm : m.length = y.n)
    (h1 : Em.err (toL b) = 0 → (⟨l, toL x.d, x.r, x.e⟩ : Em.Ex) = Em.of (toL b)) (h2 : Em.err (toL b) ≠ 0 → x = z0 ∧ l = [])
    (k1 : Em.err (toL b) = 0 → (⟨m, toL y.d, y.r, y.e⟩ : Em.Ex) = Em.of (toL b)) (k2 : Em.err (toL b) ≠ 0 → y = z0 ∧ m = []) : sameB x y l m = true := by
  by_cases h : Em.err (toL b) = 0
  · have e := (h1 h).trans (k1 h).symm
    injection e with e1 e2 e3 e4
    have e5 := toL_inj e2
    unfold sameB
    rw [e3, e4, e5, ← hl, ← hm, e1]
    simp
  · obtain ⟨rfl, rfl⟩ := h2 h
    obtain ⟨rfl, rfl⟩ := k2 h
    simp [sameB]
theorem of_bytes {b : ByteArray} {x : Xv} {l : List Nat} (hl : l.length = x.n) (h : Em.err (toL b) = 0)
    (h1 : (⟨l, toL x.d, x.r, x.e⟩ : Em.Ex) = Em.of (toL b)) : chkN x = 0 ∧ fileX x l = b := by
  have hb : ¬ Em.bad (Em.of (toL b)) := by
    intro hb
    unfold Em.err at h
    rw [if_pos hb] at h
    repeat' split at h
    all_goals exact absurd h (by decide)
  have hf := Em.file_of (toL b) h
  rw [← h1] at hb hf
  have hb' : ¬ badN x.n x.d.size x.r x.e := fun h => hb (by
    unfold Em.bad
    unfold badN at h
    simpa only [hl, toL_length] using h)
  refine ⟨chkN_ok hb', ?_⟩
  rw [fileX, if_neg hb']
  apply toL_inj
  refine Eq.trans ?_ hf
  simp [toL]
set_option maxRecDepth 100000 in
set_option maxHeartbeats 4000000 in
theorem walk (b : ByteArray) (hb : b.size ≤ 9223372036854775807) (w : World) :
    Calls Try.prog 4 #[.string b] w fun e w' => e = .returned (.bool true) ∧ Below w.heap.size w w' := by
  by_cases hG : 2500 < b.size
  · have j : (2500 : Int) < (b.size : Int) := by omega
    go_enter Try.func4, Try.ntmps4
    go_wp2_with fail
    refine (awake_any _).mono ?_
    rintro e w2 ⟨rfl, hx1⟩
    go_wp2_with fail
    go_ret
    exact ⟨rfl, hx1⟩
  · have j : ¬ (2500 : Int) < (b.size : Int) := by omega
    go_enter Try.func4, Try.ntmps4
    go_wp2_with fail
    refine (of_any b _ (by omega)).mono ?_
    rintro e w1 ⟨⟨x, l, rfl, xok, xW, xw, h1, h2⟩, hx1⟩
    have a1 := at_new w1 x 25
    have xW1 := xW.below (grow w1 (Obj.cells x.cs 25))
    have b1 := hx1.trans ((grow w1 (Obj.cells x.cs 25)).mono hx1.size)
    have z1 : w1.heap.size < (w1.alloc (Obj.cells x.cs 25)).heap.size := at_lt a1
    obtain ⟨xa, xn, xc, xd, xr, xe⟩ := x
    dsimp only at *
    unfold Xv.cs at *
    dsimp only at *
    go_wp2_with fail
    change Calls _ _ _ (w1.alloc (Obj.cells #[.slice xa xn xc, .string xd, .int .i64 xr, .int .u32 (xe : Nat)] 25)) _
    generalize w1.alloc (Obj.cells #[.slice xa xn xc, .string xd, .int .i64 xr, .int .u32 (xe : Nat)] 25) = w2 at *
    generalize w1.heap.size = g1 at *
    clear hx1 xW
    refine (rof_any b _ (by omega)).mono ?_
    rintro e w3 ⟨⟨y, m, rfl, yok, yW, yw, k1, k2⟩, hx3⟩
    have hsame := of_same xW1.1 yW.1 h1 h2 k1 k2
    have a3 := a1.below z1 hx3
    have a4 := a3.below (Nat.lt_of_lt_of_le z1 hx3.size) (grow w3 (Obj.cells y.cs 25))
    have c4 := at_new w3 y 25
    have xW3 := xW1.below hx3
    have xW4 := xW3.below (grow w3 (Obj.cells y.cs 25))
    have yW4 := yW.below (grow w3 (Obj.cells y.cs 25))
    have b3 := b1.trans (hx3.mono b1.size)
    have b4 := b3.trans ((grow w3 (Obj.cells y.cs 25)).mono b3.size)
    have hs := same_any ⟨xa, xn, xc, xd, xr, xe⟩ y l m _ xok yok xW4 yW4
    rw [hsame] at hs
    clear hsame k1 k2
    have hz : Em.err (toL b) = 0 → chkN ⟨xa, xn, xc, xd, xr, xe⟩ = 0 ∧ fileX ⟨xa, xn, xc, xd, xr, xe⟩ l = b := fun h => of_bytes xW1.1 h (h1 h)
    have hby := fun wr hW => bytes_any ⟨xa, xn, xc, xd, xr, xe⟩ l xok wr hW xw
    obtain ⟨ya, yn, yc, yd, yr, ye⟩ := y
    clear h1 h2 xW1 yW a1 a3 b1 b3 hx3 xW3 yok yw yW4
    dsimp only at *
    unfold Xv.cs at *
    dsimp only at *
    generalize hE : Em.err (toL b) = E at *
    clear hE
    generalize hvv : w3.alloc (Obj.cells #[.slice ya yn yc, .string yd, .int .i64 yr, .int .u32 (ye : Nat)] 25) = w4 at *
    obtain ⟨p0, p1, p2, p3⟩ := a4
    obtain ⟨q0, q1, q2, q3⟩ := c4
    dsimp only at p0 p1 p2 p3 q0 q1 q2 q3
    have P0 := Lib.hid p0
    have P1 := Lib.hid p1
    have P2 := Lib.hid p2
    have P3 := Lib.hid p3
    rw [← hvv] at p0 p1 p2 p3 q0 q1 q2 q3
    have HV := Lib.hid hvv
    clear hvv
    go_wp2_with fail
    rw [HV.out]
    refine hs.mono ?_
    rintro e w5 ⟨rfl, hx5⟩
    clear p0 p1 p2 p3 q0 q1 q2 q3 HV hs
    have a5 := (At.mk (x := ⟨xa, xn, xc, xd, xr, xe⟩) P0.out P1.out P2.out P3.out)
    have a6 := a5.below (at_lt a5) hx5
    have xW5 := xW4.below hx5
    have b5 := b4.trans (hx5.mono b4.size)
    obtain ⟨p0, p1, p2, p3⟩ := a6
    dsimp only at p0 p1 p2 p3
    by_cases hE : E = 0
    · obtain ⟨hc, hf⟩ := hz hE
      rw [hc, hf] at hby
      subst hE
      have t1 := Nm.str_yes (rfl : b = b)
      go_wp2_with fail
      refine (hby _ xW5).mono ?_
      rintro e w6 ⟨rfl, hx6⟩
      have b6 := b5.trans (hx6.mono b5.size)
      clear p0 p1 p2 p3
      go_wp2_with fail
      refine (awake_any _).mono ?_
      rintro e w7 ⟨rfl, hx7⟩
      go_wp2_with fail
      go_ret
      exact ⟨rfl, b6.trans (hx7.mono b6.size)⟩
    · have tE : ((E : Int) != 0) = true := by rw [bne_iff_ne]; omega
      have tE' : ¬ (E : Int) = 0 := by omega
      clear hz hby
      go_wp2_with fail
      refine (awake_any _).mono ?_
      rintro e w7 ⟨rfl, hx7⟩
      go_wp2_with fail
      go_ret
      exact ⟨rfl, b5.trans (hx7.mono b5.size)⟩

set_option maxRecDepth 100000 in
theorem lifted (os : Os) (started : os.Started) (H : Type) (enc : TypeId × Value → H) :
    ReturnsInHanded {} Try.checked os 4 .any (Rows.exeReadsSpec.pre6 enc Try.prog Try.f4 Rows.exeReadsRow.domain false) (Rows.exeReadsSpec.post enc Try.prog Try.f4 false true false false) := by
  refine returnsInHanded_of_change (C := Try.checked) own started (by kernel_rfl) Try.func4
    (ChangeSpec.witness6 (enc := enc) (C := Try.checked) false ⟨#[], #[.string ByteArray.empty], []⟩ 8 (by kernel_rfl) (by kernel_rfl) (by kernel_rfl) (by kernel_rfl)) ?_
  intro W base args ds gs before hval0 hW hcnd _
  have hval : ∀ (j : Nat) t v, Try.f4.params[j]? = some t → args[j]? = some v → Value.okWide Try.prog W .any base t v := hval0
  have hW' := hW
  obtain ⟨p, q, hA0, hV, rfl, hfz, hnd⟩ := hW
  have hA : DataW.TrodAll enc Try.prog W 0 (fun _ => true) true Try.f4.params.toList args.toList ds p := hA0
  rw [Try.params4] at hA hval
  obtain ⟨v0, vs0, d0, ds0, p0, q0, hargs, rfl, rfl, h0, r0⟩ := trodAll_cons hA
  obtain ⟨rfl, rfl, rfl⟩ := trodAll_nil r0
  obtain rfl : args = #[v0] := by cases args; simp_all
  obtain ⟨rfl, rfl⟩ := trodVars_none hV
  obtain ⟨a0, rfl, rfl, rfl, w0⟩ := open_string Try.underlying9 (hval 0 9 v0 rfl rfl) h0
  clear hA0 hval0
  refine (walk a0 (by unfold maxLen at w0; exact w0) W).mono fun e W' ⟨he, bel⟩ => ?_
  subst he
  exact ⟨_, rfl, _, _, _, [], _, [], hW', trodAll_mk1 (shut_bool Try.underlying4 _), (trodAll_cons_mk (shut_string Try.underlying9 w0) trodAll_mk0), rfl, bel.frame _, fun h => by cases h⟩

theorem over : Rows.exeReadsRow.holds Try.pinned (OpenSpec.ofChange Rows.exeReadsSpec) :=
  OpenClaim.holds_of_wide 4 Try.f4 rfl rfl rfl rfl rfl rfl rfl ⟨rfl, rfl, rfl, rfl, rfl⟩ rfl rfl rfl rfl rfl (by kernel_rfl) Try.func4 (by kernel_rfl)
    (of_decide_eq_true (by kernel_rfl)) (by unfold Func.isWrapper; first | (rw [if_pos (by decide +kernel)]; kernel_rfl) | (rw [if_neg (by decide +kernel)]; exact ⟨rfl, rfl⟩))
    (fun os started H enc _ => lifted os started H enc)

/-- the statement -/
theorem proved : Rows.ExeReadsSaid := over
end Go.Proofs.Ytkbelpkmlmfedaa.exeReads
