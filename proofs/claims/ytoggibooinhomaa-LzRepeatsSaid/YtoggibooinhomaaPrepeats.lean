/-
  For every byte and every number the law LzRepeats of package lz returns true: a byte so many times over takes at most eight bytes, and three for each begun 131 of them but two; there is no condition; the arguments read as before.
-/
import Derived.Test.YtoggibooinhomaaRows
import Derived.WalkKit
import Derived.ProofKit
import Derived.OpenShut
import Derived.ShutString
import Derived.Test.YtoggibooinhomaaLv
import Derived.Test.YtoggibooinhomaaOk
import Derived.Deep.OwnRows
namespace Go.Proofs.Ytoggibooinhomaa.lzRepeats
open Go.ChangeShapes Go.WideShapes Go.ChangeAt Go.RowKit
open Go.ChangeMaps (open_string shut_string)
set_option linter.unusedVariables false
set_option linter.unusedSimpArgs false

theorem own : ownKnob Try.prog.godebug = none := by kernel_rfl
theorem toL_rep (n : Nat) (c : UInt8) (l : List UInt8) (h : l = List.replicate n c) : (ofL (Lz.pack (toL (ofL l)))).size ≤ 8 + 3 * ((n + 129) / 131) := by
  rw [ofL_size, toL_ofL, h]
  exact Lz.pack_rep n c
/-- the first k of n cells are that byte -/
def Row (c n k : Nat) (cs : Array Value) : Prop := cs.size = n ∧ (∀ j, j < k → cs[j]? = some (.int .u8 (c : Int))) ∧ ∀ j, j < n → ∃ v, cs[j]? = some v
theorem row_put {c n k : Nat} {cs : Array Value} (h : Row c n k cs) (hk : k < n) : Row c n (k + 1) (cs.setIfInBounds k (.int .u8 (c : Int))) := by
  have hs := h.1
  refine ⟨by simpa using h.1, fun j hj => ?_, fun j hj => ?_⟩
  · by_cases e : j = k
    · subst e
      rw [Array.getElem?_setIfInBounds_self_of_lt (by omega)]
    · rw [Array.getElem?_setIfInBounds_ne (by omega)]
      exact h.2.1 j (by omega)
  · by_cases e : j = k
    · subst e
      exact ⟨_, Array.getElem?_setIfInBounds_self_of_lt (by omega)⟩
    · rw [Array.getElem?_setIfInBounds_ne (by omega)]
      exact h.2.2 j hj
set_option maxRecDepth 100000 in
set_option maxHeartbeats 2000000 in
theorem walk (c n : Nat) (w0 : c < 256) (w1 : n < 65536) (w : World) :
    Calls Try.prog 8 #[.int .u8 c, .int .u16 n] w fun e w' => e = .returned (.bool true) ∧ Below w.heap.size w w' := by
  by_cases h1 : 5000 < n
  · go_enter Try.func8, Try.ntmps8
    go_wp2_with fail
    refine (alive_any _).mono ?_
    rintro e w1 ⟨rfl, hb⟩
    go_wp2_with fail
    go_ret
    exact ⟨rfl, hb⟩
  · by_cases h2 : n = 0
    · subst h2
      go_enter Try.func8, Try.ntmps8
      go_wp2_with fail
      refine (alive_any _).mono ?_
      rintro e w1 ⟨rfl, hb⟩
      go_wp2_with fail
      go_ret
      exact ⟨rfl, hb⟩
    · have t0 : ((n : Int) == 0) = false := by rw [beq_eq_false_iff_ne]; omega
      have hmk := fun w => run_make_row' 32 5 (.int .u8 0) 1 Try.underlying32 info5 rfl .i64 .i64 n (by omega) (by omega) w
      have t1 : decide (5000 < (n : Int)) = false := by rw [decide_eq_false_iff_not]; omega
      have hW : Own (w.alloc (.cells (madeCells #[.int .u8 0] n) 5)) w.heap.size 5 (madeCells #[.int .u8 0] n) := al_own w [.cells (madeCells #[.int .u8 0] n) 5] 0 rfl
      have hWb : Below w.heap.size w (w.alloc (.cells (madeCells #[.int .u8 0] n) 5)) := al_below w [.cells (madeCells #[.int .u8 0] n) 5]
      have hst : Row c n 0 (madeCells #[.int .u8 0] n) := ⟨size_madeCells _ _, fun j hj => by omega, fun j hj => ⟨.int .u8 0, by rw [← Array.getElem?_toList, toList_madeCells_one, List.getElem?_replicate, if_pos hj]⟩⟩
      go_enter Try.func8, Try.ntmps8
      go_wp2_with fail
      generalize w.alloc (.cells (madeCells #[.int .u8 0] n) 5) = wo at hW hWb ⊢
      generalize madeCells #[.int .u8 0] n = c0 at hW hst
      generalize hg : w.heap.size = g at *
      have HG := Lib.hid hg
      clear hg
      clear hmk
      go_loopw [6] (fun i wr => ∃ (k : Nat) (cs : Array Value), k ≤ n ∧ i = .int .i64 k ∧ Own wr g 5 cs ∧ Hid (Row c n k cs) ∧ Below g w wr) (fun i _ => n - (intOf i).toNat)
      case atStart => exact ⟨0, c0, Nat.zero_le _, rfl, hW, hst, hWb⟩
      case round =>
        obtain ⟨k, cs, hk, rfl, hO, hR, hB⟩ := hrel
        by_cases hlt : k < n
        · have d1 : (k : Int) < (n : Int) := by omega
          obtain ⟨v, hv⟩ := hR.out.2.2 k hlt
          have cl := hO.cell k
          rw [hv] at cl
          have fr := hO.frozen k
          have HR := Lib.hid (row_put hR.out hlt)
          clear hv
          go_wp2_with fail
          go_roundw
          case rel => exact ⟨k + 1, _, by omega, by go_num, hO.set k _, HR, hB.setCell (Nat.le_refl _) _⟩
          case measure => simp [intOf]; omega
        · obtain rfl : k = n := by omega
          have cv : (convert 32 9 (.slice (some ⟨g, 0, none⟩) k k)).run Try.prog wr = .ok (.string (ofL (List.replicate k (UInt8.ofNat c)))) wr := by
            rw [run_convert_bytes_arg wr 32 5 Try.underlying32 Try.underlying5 g 0 k k (List.replicate k (c : Int)) (by simp) (fun i hi => by
              rw [Nat.zero_add, hO.cell i, hR.out.2.1 i hi]
              simp [List.getD_eq_getElem?_getD, hi]) 9 Try.underlying9]
            congr 2
            unfold strOfNums ofL
            simp
          have hp := pack_any (ofL (List.replicate k (UInt8.ofNat c))) wr (by rw [ofL_size]; simp; omega)
          have hz := toL_rep k (UInt8.ofNat c) _ rfl
          generalize ofL (Lz.pack (toL (ofL (List.replicate k (UInt8.ofNat c))))) = x at *
          have d2 : (x.size : Int) ≤ 8 + (3 : Int) * (((k : Int) + 129) / 131) := by omega
          clear hz
          go_wp2_with fail
          refine hp.mono ?_
          rintro e w2 ⟨rfl, hb2⟩
          go_wp2_with fail
          refine (alive_any _).mono ?_
          rintro e w4 ⟨rfl, hb4⟩
          go_wp2_with fail
          go_ret
          have g1 : g ≤ wr.heap.size := Nat.le_of_lt hO.lt
          have z2 := hB.trans (hb2.mono g1)
          exact ⟨rfl, by rw [HG.out]; exact z2.trans (hb4.mono (Nat.le_trans g1 hb2.size))⟩

set_option maxRecDepth 100000 in
theorem lifted (os : Os) (started : os.Started) (H : Type) (enc : TypeId × Value → H) :
    ReturnsInHanded {} Try.checked os 8 .any (Rows.lzRepeatsSpec.pre6 enc Try.prog Try.f8 Rows.lzRepeatsRow.domain false) (Rows.lzRepeatsSpec.post enc Try.prog Try.f8 false true false false) := by
  refine returnsInHanded_of_change (C := Try.checked) own started (by kernel_rfl) Try.func8
    (ChangeSpec.witness6 (enc := enc) (C := Try.checked) false ⟨#[], #[.int .u8 0, .int .u16 0], []⟩ 8 (by kernel_rfl) (by kernel_rfl) (by kernel_rfl) (by kernel_rfl)) ?_
  intro W base args ds gs before hval0 hW hcnd _
  have hval : ∀ (j : Nat) t v, Try.f8.params[j]? = some t → args[j]? = some v → Value.okWide Try.prog W .any base t v := hval0
  have hW' := hW
  obtain ⟨p, q, hA0, hV, rfl, hfz, hnd⟩ := hW
  have hA : DataW.TrodAll enc Try.prog W 0 (fun _ => true) true Try.f8.params.toList args.toList ds p := hA0
  rw [Try.params8] at hA hval
  obtain ⟨v0, vs0, d0, ds0, p0, q0, hargs, rfl, rfl, h0, r0⟩ := trodAll_cons hA
  obtain ⟨v1, vs1, d1, ds1, p1, q1, rfl, rfl, rfl, h1, r1⟩ := trodAll_cons r0
  obtain ⟨rfl, rfl, rfl⟩ := trodAll_nil r1
  obtain rfl : args = #[v0, v1] := by cases args; simp_all
  obtain ⟨rfl, rfl⟩ := trodVars_none hV
  obtain ⟨n0, rfl, rfl, rfl, w0⟩ := open_int Try.underlying5 (hval 0 5 v0 rfl rfl) h0
  obtain ⟨m0, rfl, z0⟩ := nat_u8 w0
  obtain ⟨n1, rfl, rfl, rfl, w1⟩ := open_int Try.underlying30 (hval 1 30 v1 rfl rfl) h1
  obtain ⟨m1, rfl, z1⟩ := nat_u16 w1
  clear hA0 hval0
  refine (walk m0 m1 z0 z1 W).mono fun e W' ⟨he, bel⟩ => ?_
  subst he
  exact ⟨_, rfl, _, _, _, [], _, [], hW', trodAll_mk1 (shut_bool Try.underlying4 _), (trodAll_cons_mk (shut_int Try.underlying5 w0) (trodAll_cons_mk (shut_int Try.underlying30 w1) trodAll_mk0)), rfl, bel.frame _, fun h => by cases h⟩

theorem over : Rows.lzRepeatsRow.holds Try.pinned (OpenSpec.ofChange Rows.lzRepeatsSpec) :=
  OpenClaim.holds_of_wide 8 Try.f8 rfl rfl rfl rfl rfl rfl rfl ⟨rfl, rfl, rfl, rfl, rfl⟩ rfl rfl rfl rfl rfl (by kernel_rfl) Try.func8 (by kernel_rfl)
    (of_decide_eq_true (by kernel_rfl)) (by unfold Func.isWrapper; first | (rw [if_pos (by decide +kernel)]; kernel_rfl) | (rw [if_neg (by decide +kernel)]; exact ⟨rfl, rfl⟩))
    (fun os started H enc _ => lifted os started H enc)

/-- the statement -/
theorem proved : Rows.LzRepeatsSaid := over
end Go.Proofs.Ytoggibooinhomaa.lzRepeats
