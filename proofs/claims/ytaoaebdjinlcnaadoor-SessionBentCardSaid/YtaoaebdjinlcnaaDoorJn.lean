/-
  THE WALKS of parts, one behind the other, of the code and of the document's answer.
-/
import Derived.Test.YtaoaebdjinlcnaaDoorSh
import Derived.Test.YtaoaebdjinlcnaaDoorSb
import Derived.RegionTactic
import Derived.BigRegion
set_option linter.unusedVariables false
set_option linter.unusedSimpArgs false
set_option maxRecDepth 100000
namespace Go.Proofs.YtaoaebdjinlcnaaDoor
open Go.RowKit
/-- the bytes of parts, one behind the other -/
def cat (xs : List ByteArray) : List Nat := xs.flatMap tn
theorem cat_by (xs : List ByteArray) : Bl.By (cat xs) := fun x hx => by
  obtain ⟨s, _, h⟩ := List.mem_flatMap.1 hx
  exact tn_by s x h
theorem cat_cons (x : ByteArray) (xs : List ByteArray) : cat (x :: xs) = tn x ++ cat xs := by simp [cat]
theorem cat_append (xs ys : List ByteArray) : cat (xs ++ ys) = cat xs ++ cat ys := by simp [cat]
theorem cat_next (xs : List ByteArray) (j : Nat) (h : j < xs.length) : cat (xs.take (j + 1)) = cat (xs.take j) ++ tn xs[j] := by
  rw [List.take_succ_eq_append_getElem h, cat_append]
  simp [cat]
theorem cat_take_le (xs : List ByteArray) (j : Nat) : (cat (xs.take j)).length ≤ (cat xs).length := by
  have : cat xs = cat (xs.take j) ++ cat (xs.drop j) := by rw [← cat_append, List.take_append_drop]
  rw [this, List.length_append]; omega
theorem of_tn (x : ByteArray) : (tn x).map UInt8.ofNat = x.data.toList := by
  unfold tn
  rw [List.map_map]
  have : (UInt8.ofNat ∘ UInt8.toNat) = id := by funext x; simp
  rw [this, List.map_id]
theorem cat_ofNat (xs : List ByteArray) : (cat xs).map UInt8.ofNat = (xs.map (·.data.toList)).flatten := by
  induction xs with
  | nil => rfl
  | cons x xs ih => rw [cat_cons, List.map_append, of_tn, ih]; rfl
/-- parts as a slice holds them -/
def Pts (w : World) (a : Option Addr) (xs : List ByteArray) : Prop := xs = [] ∨ ∃ g o, a = some ⟨g, o, none⟩ ∧ g < w.heap.size ∧ ∀ (j : Nat) x, xs[j]? = some x → w.cell? ⟨g, o + j, none⟩ = some (.string x)
theorem Pts.below {w w1 : World} {a : Option Addr} {xs : List ByteArray} (h : Pts w a xs) (hx : Below w.heap.size w w1) : Pts w1 a xs := by
  rcases h with rfl | ⟨g, o, rfl, hg, hc⟩
  · exact .inl rfl
  · exact .inr ⟨g, o, rfl, Nat.lt_of_lt_of_le hg hx.size, fun j x h => (hx.cell hg).trans (hc j x h)⟩
set_option maxRecDepth 100000 in
theorem joined_any (a : Option Addr) (xs : List ByteArray) (c : Nat) (w : World) (hp : Pts w a xs) (hN : xs.length ≤ 1000000000) (hl : (cat xs).length ≤ 1000000000) :
    Calls Tryd.prog 64 #[.slice a xs.length c] w fun e w' => e = .returned (.string (bs (cat xs))) ∧ w = w' := by
  go_enter Tryd.func64, Tryd.ntmps64
  go_wp2_with fail
  go_loopw [3, 4] (fun s' i' wr => ∃ (j : Nat) (b : ByteArray), j ≤ xs.length ∧ b = bs (cat (xs.take j)) ∧ s' = .string b ∧ i' = .int .i64 j ∧ wr = w) (fun _ i _ => xs.length - (intOf i).toNat)
  case atStart => exact ⟨0, bs (cat (xs.take 0)), by omega, rfl, rfl, rfl, rfl⟩
  case round =>
    obtain ⟨j, b, hj, hb, rfl, rfl, rfl⟩ := hrel
    by_cases hlt : j < xs.length
    · have hji : (j : Int) < (xs.length : Int) := by omega
      have hle := cat_take_le xs (j + 1)
      have en := cat_next xs j hlt
      have e1 : b ++ xs[j] = bs (cat (xs.take (j + 1))) := by rw [en, hb, bs_append, bs_tn]
      have z1 : b.size + (xs[j]).size ≤ 1000000000 := by rw [hb, bs_size, ← tn_length, ← List.length_append, ← en]; omega
      rcases hp with h | ⟨g, o, rfl, hg, hcell⟩
      · subst h; exact absurd hlt (by simp)
      · have c1 := hcell j xs[j] (by simp [hlt])
        have H := Lib.hid (And.intro e1 (And.intro hb en))
        clear hb en e1
        obtain ⟨x, hx⟩ : ∃ x, x = xs[j] := ⟨_, rfl⟩
        rw [← hx] at H z1 c1
        clear hx hcell
        go_wp2_with fail
        go_roundw
        case rel => exact ⟨j + 1, _, by omega, H.out.1, rfl, by go_num, trivial⟩
        case measure => simp [intOf]; omega
    · obtain rfl : j = xs.length := by omega
      rw [List.take_length] at hb
      subst hb
      go_wp2_with fail
      go_ret
      exact ⟨rfl, rfl⟩
end Go.Proofs.YtaoaebdjinlcnaaDoor
