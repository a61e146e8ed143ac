/-
  THE WALKS of the question whether a row has a text of another length, and whether the map fits a plan.
-/
import Derived.Test.YtambgmjiafcokaaDoorGd
namespace Go.Proofs.YtambgmjiafcokaaDoor
set_option linter.unusedVariables false
set_option maxRecDepth 100000
set_option linter.unusedSimpArgs false
open Go.RowKit
namespace Dw
open _root_.Go.Proofs.YtambgmjiafcokaaDoor.Nm
/-- all texts of the row are blocks -/
def Blk (l : List ByteArray) (n : Nat) : Prop := ∀ k, k < n → (nth l k).size = 128
/-- no text of the row is longer than is handled -/
def Lit (l : List ByteArray) (n : Nat) : Prop := ∀ k, k < n → (nth l k).size ≤ 9223372036854775807
theorem Blk.lit {l : List ByteArray} {n : Nat} (h : Blk l n) : Lit l n := fun k hk => by rw [h k hk]; decide
def fv : Value := .func (.func 45) #[] #[]
theorem index_any (A : Option Addr) (n c : Nat) (l : List ByteArray) (w : World) (h : Tz w A n c l) (hL : Lit l n) :
    Calls Tryd.prog 58 #[.slice A n c, fv] w fun e w' => (∃ j : Int, e = .returned (.int .i64 j) ∧ ((j = -1 ∧ Blk l n) ∨ (0 ≤ j ∧ ¬ Blk l n))) ∧ w = w' := by
  have hm := h.m
  unfold fv
  go_enter Tryd.func58, Tryd.ntmps58
  go_wp2_with fail
  go_loop [8] (fun i => ∃ k : Nat, k ≤ n ∧ i = .int .i64 k ∧ Blk l k) (fun i => n - (intOf i).toNat)
  case atStart => exact ⟨0, Nat.zero_le _, rfl, fun k hk => absurd hk (Nat.not_lt_zero _)⟩
  case round =>
    obtain ⟨k, hk, rfl, hB⟩ := hrel
    have HB := Lib.hid hB
    clear hB
    by_cases hlt : k < n
    · obtain ⟨b, off, rfl, hc⟩ := h.t.2 (by omega)
      have c1 := hc k hlt
      have b1 : (k : Int) < (n : Int) := by omega
      have hs := hL k hlt
      clear hc
      by_cases hx : (nth l k).size = 128
      · have HX := Lib.hid hx
        have hp := (pred_any (nth l k) w (by omega))
        rw [decide_eq_false (fun h => h hx)] at hp
        clear hx hs
        go_wp2_with fail
        refine hp.mono ?_
        rintro e w' ⟨rfl, rfl⟩
        go_wp2_with fail
        go_round
        case rel =>
          refine ⟨k + 1, by omega, by go_num, fun j hj => ?_⟩
          by_cases hjk : j = k
          · rw [hjk]; exact HX.out
          · exact HB.out j (by omega)
        case measure => simp [intOf]; omega
      · have HX := Lib.hid hx
        have hp := (pred_any (nth l k) w (by omega))
        rw [decide_eq_true hx] at hp
        clear hx hs
        go_wp2_with fail
        refine hp.mono ?_
        rintro e w' ⟨rfl, rfl⟩
        go_wp2_with fail
        go_ret
        exact ⟨⟨(k : Int), rfl, .inr ⟨by omega, fun h' => HX.out (h' k hlt)⟩⟩, rfl⟩
    · obtain rfl : k = n := by omega
      go_wp2_with fail
      go_ret
      exact ⟨⟨-1, rfl, .inl ⟨rfl, HB.out⟩⟩, rfl⟩
theorem contains_any (A : Option Addr) (n c : Nat) (l : List ByteArray) (w : World) (h : Tz w A n c l) (hL : Lit l n) :
    Calls Tryd.prog 46 #[.slice A n c, fv] w fun e w' => (∃ r : Bool, e = .returned (.bool r) ∧ (r = false ↔ Blk l n)) ∧ w = w' := by
  have hi := index_any A n c l w h hL
  unfold fv at hi ⊢
  go_enter Tryd.func46, Tryd.ntmps46
  go_wp2_with fail
  refine hi.mono ?_
  rintro e w' ⟨⟨j, rfl, hj⟩, rfl⟩
  rcases hj with ⟨rfl, hB⟩ | ⟨h0, hB⟩
  · have HB := Lib.hid hB
    clear hB
    go_wp2_with fail
    go_ret
    exact ⟨⟨false, rfl, by simp [HB.out]⟩, rfl⟩
  · have HB := Lib.hid hB
    clear hB
    have h1 : decide (0 ≤ j) = true := decide_eq_true h0
    go_wp2_with fail
    go_ret
    exact ⟨⟨true, by simp [h0], by simp [HB.out]⟩, rfl⟩
theorem mem_dropWhile {p : UInt8 → Bool} {x : UInt8} (hx : p x = false) : ∀ l : List UInt8, x ∈ l → x ∈ l.dropWhile p
  | [], h => nomatch h
  | y :: l, h => by
    rw [List.dropWhile_cons]
    split
    · rename_i hy
      refine mem_dropWhile hx l ?_
      rcases List.mem_cons.1 h with rfl | h
      · rw [hx] at hy; exact nomatch hy
      · exact h
    · exact h
theorem dropWhile_all {p : UInt8 → Bool} : ∀ l : List UInt8, (∀ x ∈ l, p x = true) → l.dropWhile p = []
  | [], _ => rfl
  | y :: l, h => by
    rw [List.dropWhile_cons, if_pos (h y (List.mem_cons_self ..))]
    exact dropWhile_all l fun x hx => h x (List.mem_cons_of_mem _ hx)
theorem trim_zero (l : List UInt8) : Lib.trimB l 0 = [] ↔ ∀ x ∈ l, x = 0 := by
  unfold Lib.trimB Lib.trimLeftB Lib.trimRightB
  constructor
  · intro h x hx
    by_cases hz : x = 0
    · exact hz
    · have hp : (x == 0) = false := by rw [beq_eq_false_iff_ne]; exact hz
      have h1 := mem_dropWhile (p := (· == 0)) hp l.reverse (List.mem_reverse.2 hx)
      have h2 := mem_dropWhile (p := (· == 0)) hp _ (List.mem_reverse.2 h1)
      rw [h] at h2
      exact nomatch h2
  · intro h
    rw [dropWhile_all l.reverse (fun x hx => by rw [h x (List.mem_reverse.1 hx)]; rfl)]
    rfl
theorem rest_zero {m : List UInt8} (hm : m.length = 128) {e : Nat} (he : e % 8 = 0) : (∀ x ∈ m.drop (e / 8), x = 0) ↔ ∀ i, i < 1024 → e ≤ i → Gm.bit m i = false := by
  constructor
  · intro h i hi hei
    unfold Gm.bit
    have hlt : i / 8 < m.length := by omega
    have hx : m.getD (i / 8) 0 ∈ m.drop (e / 8) := by
      rw [List.getD_eq_getElem?_getD, List.getElem?_eq_getElem hlt, List.mem_iff_getElem?]
      refine ⟨i / 8 - e / 8, ?_⟩
      rw [List.getElem?_drop, show e / 8 + (i / 8 - e / 8) = i / 8 by omega, List.getElem?_eq_getElem hlt]; rfl
    rw [h _ hx]
    exact Gm.zero_bit _
  · intro h x hx
    obtain ⟨j, hj⟩ := List.mem_iff_getElem?.1 hx
    rw [List.getElem?_drop] at hj
    have hlt : e / 8 + j < m.length := (List.getElem?_eq_some_iff.1 hj).1
    refine Gm.byte_zero fun k hk => ?_
    have := h (8 * (e / 8 + j) + k) (by omega) (by omega)
    unfold Gm.bit at this
    rw [show (8 * (e / 8 + j) + k) / 8 = e / 8 + j by omega, show (8 * (e / 8 + j) + k) % 8 = k by omega, List.getD_eq_getElem?_getD, hj] at this
    exact this
end Dw
end Go.Proofs.YtambgmjiafcokaaDoor
