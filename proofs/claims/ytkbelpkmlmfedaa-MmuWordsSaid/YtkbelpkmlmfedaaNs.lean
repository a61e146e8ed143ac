/-
  THE WALKS of the question whether two rows are one, and whether a row is more than is looked at.
-/
import Derived.Test.YtkbelpkmlmfedaaNl
namespace Go.Proofs.Ytkbelpkmlmfedaa
set_option linter.unusedVariables false
set_option maxRecDepth 100000
set_option linter.unusedSimpArgs false
open Go.RowKit
namespace Nm
theorem str_yes {a b : ByteArray} (h : a = b) : (a.toList == b.toList) = true := by rw [h]; simp
theorem str_no {a b : ByteArray} (h : a ≠ b) : (a.toList == b.toList) = false := by
  rw [beq_eq_false_iff_ne]
  intro e
  rw [Go.ByteArray.toList_eq, Go.ByteArray.toList_eq] at e
  exact h (toL_inj e)
theorem eq_of_take {l l' : List ByteArray} (h : l.length = l'.length) (k : Nat) (hk : k = l.length) (e : l.take k = l'.take k) : l = l' := by
  rwa [List.take_of_length_le (by omega), List.take_of_length_le (by omega)] at e
set_option maxHeartbeats 1000000 in
theorem same_any (A A' : Option Addr) (len cap len' cap' : Nat) (l l' : List ByteArray) (w : World) (hl : Ts w A len l) (hl' : Ts w A' len' l') (hm : len ≤ 9223372036854775807) (hm' : len' ≤ 9223372036854775807) :
    Calls Try.prog 37 #[.slice A len cap, .slice A' len' cap'] w fun e w' => e = .returned (.bool (decide (l = l'))) ∧ Dr w w' := by
  by_cases hlen : len = len'
  · subst hlen
    have t1 : ((len : Int) != (len : Int)) = false := by simp
    have H1 := Lib.hid hl.1
    have H2 := Lib.hid hl'.1
    go_enter Try.func37, Try.ntmps37
    go_wp2_with fail
    go_loopw [13] (fun i wr => ∃ k : Nat, k ≤ len ∧ i = .int .i64 k ∧ l.take k = l'.take k ∧ Dr w wr) (fun i _ => len - (intOf i).toNat)
    case atStart => exact ⟨0, Nat.zero_le _, rfl, rfl, Dr.refl _⟩
    case round =>
      obtain ⟨k, hk, rfl, he, hd⟩ := hrel
      have HE := Lib.hid he
      clear he
      by_cases hlt : k < len
      · obtain ⟨b, off, rfl, hc⟩ := hl.2 (by omega)
        obtain ⟨b', off', rfl, hc'⟩ := hl'.2 (by omega)
        have c1 := (hd.cell _).trans (hc k hlt)
        have c2 := (hd.cell _).trans (hc' k hlt)
        have b1 : (k : Int) < (len : Int) := by omega
        clear hc hc'
        by_cases hx : nth l k = nth l' k
        · have HX := Lib.hid hx
          have t2 := str_yes hx
          clear hx
          go_wp2_with fail
          go_quiet (fail)
          go_wp2_with fail
          go_roundw
          case rel =>
            refine ⟨k + 1, by omega, by go_num, ?_, hd.drewN _⟩
            have k1 : k < l.length := by have := H1.out; omega
            have k2 : k < l'.length := by have := H2.out; omega
            rw [List.take_succ_eq_append_getElem k1, List.take_succ_eq_append_getElem k2, HE.out, ← nth_eq k1, ← nth_eq k2, HX.out]
          case measure => simp [intOf]; omega
        · have HX := Lib.hid hx
          have t2 := str_no hx
          clear hx
          go_wp2_with fail
          go_quiet (fail)
          go_wp2_with fail
          go_ret
          refine ⟨?_, hd.drewN _⟩
          rw [decide_eq_false (fun e => HX.out (by rw [e]))]
          rfl
      · obtain rfl : k = len := by omega
        go_wp2_with fail
        go_ret
        refine ⟨?_, hd⟩
        rw [decide_eq_true (eq_of_take (H1.out.trans H2.out.symm) k H1.out.symm HE.out)]
        rfl
  · have t1 : ((len : Int) != (len' : Int)) = true := by rw [bne_iff_ne]; omega
    have hne : l ≠ l' := fun e => hlen (by rw [← hl.1, ← hl'.1, e])
    have HN := Lib.hid hne
    clear hlen hne
    go_enter Try.func37, Try.ntmps37
    go_wp2_with fail
    go_ret
    exact ⟨by rw [decide_eq_false HN.out]; rfl, Dr.refl _⟩
/-- how many bytes and texts a row has -/
def bulk (l : List ByteArray) : Nat := (l.map fun s => s.size + 1).sum
theorem bulk_take (l : List ByteArray) (k : Nat) (h : k < l.length) : bulk (l.take (k + 1)) = bulk (l.take k) + ((nth l k).size + 1) := by
  unfold bulk
  rw [List.take_succ_eq_append_getElem h, List.map_append, List.sum_append, nth_eq h]
  simp
/-- the answer of 'long' -/
def LongIs (l : List ByteArray) (e : Ending) : Prop := e = .returned (.bool true) ∨ e = .returned (.bool false) ∧ bulk l ≤ 5000
end Nm
end Go.Proofs.Ytkbelpkmlmfedaa
