/-
  THE WALK of the question whether parts are more than statements look at; how an argument of texts is opened.
-/
import Derived.Test.YtaabefafafdndaaDoorKf
import Derived.SliceStrings
import Derived.OpenShut
namespace Go.Proofs.YtaabefafafdndaaDoor
open Go.ChangeShapes Go.WideShapes Go.ChangeAt Go.RowKit
theorem addr_add' (b off i : Nat) : (⟨b, off, none⟩ : Addr).add i = ⟨b, off + i, none⟩ := Addr.add_mid b off i
theorem okStrs {H : Type} {enc : TypeId × Value → H} {W : World} {base : Nat} {v : Value} {d : DataW H} {p : List MemPlace} (hv : Value.okWide Tryd.prog W .any base 31 v)
    (h : DataW.Trod enc Tryd.prog W 0 (fun _ => true) true 31 v d p) :
    ∃ (A : Option Addr) (c : Nat) (xs : List ByteArray), v = .slice A xs.length c ∧ Pts W A xs ∧ xs.length ≤ c ∧ xs.length ≤ maxLen ∧ ∀ x ∈ xs, x.size ≤ maxLen := by
  obtain ⟨a, len, cap, rfl⟩ := okWide_slice Tryd.underlying31 hv
  obtain ⟨fuel, hf⟩ := h
  rcases open_strings Tryd.underlying31 Tryd.underlying9 (by kernel_rfl) hf with ⟨hcs, _⟩ | ⟨x, len', cap', ss, hcs, _, hl, hm, hz, hx, hcell, hss⟩
  · simp [Value.cells] at hcs
    obtain ⟨rfl, rfl, rfl⟩ := hcs
    exact ⟨none, 0, [], rfl, .inl rfl, by simp, by simp, fun x hx => by simp at hx⟩
  · simp [Value.cells] at hcs
    obtain ⟨rfl, rfl, rfl⟩ := hcs
    simp only [if_true] at hz
    have hlen : (ss.take len).length = len := by rw [List.length_take]; omega
    refine ⟨some x, cap, ss.take len, by rw [hlen], ?_, by omega, by omega, fun x hx => hss x (List.mem_of_mem_take hx)⟩
    by_cases h0 : len = 0
    · subst h0; exact .inl (by simp)
    · obtain ⟨b, off, spot⟩ := x
      have hspot : spot = none := by simpa [Addr.add] using World.cell?_spot (hcell 0 (by omega))
      subst hspot
      have h1 := hcell 0 (by omega)
      refine .inr ⟨b, off, rfl, ?_, fun i y hi => ?_⟩
      · rw [addr_add'] at h1
        exact World.block_lt_of_cell? _ _ h1
      · have hil : i < len := by
          have := List.getElem?_eq_some_iff.1 hi
          obtain ⟨h, _⟩ := this
          rw [hlen] at h; exact h
        have e := hcell i (by omega)
        rw [addr_add'] at e
        rw [e]
        rw [List.getElem?_take_of_lt hil] at hi
        rw [List.getD_eq_getElem?_getD, hi]; rfl
/-- how much parts hold, each counted up to 2000 -/
def bulk : List ByteArray → Nat
  | [] => 0
  | x :: xs => min x.size 2000 + bulk xs
theorem bulk_append (xs ys : List ByteArray) : bulk (xs ++ ys) = bulk xs + bulk ys := by
  induction xs with
  | nil => simp [bulk]
  | cons x xs ih => simp only [List.cons_append, bulk, ih]; omega
theorem bulk_next (xs : List ByteArray) (j : Nat) (h : j < xs.length) : bulk (xs.take (j + 1)) = bulk (xs.take j) + min (xs[j]).size 2000 := by
  rw [List.take_succ_eq_append_getElem h, bulk_append]; simp [bulk]
theorem bulk_le (xs : List ByteArray) : bulk xs ≤ 2000 * xs.length := by
  induction xs with
  | nil => simp [bulk]
  | cons x xs ih => simp only [bulk, List.length_cons]; omega
theorem cat_bulk : ∀ xs : List ByteArray, bulk xs ≤ 700 → (cat xs).length ≤ 700
  | xs, h => by
    have : ∀ xs : List ByteArray, bulk xs ≤ 700 → (cat xs).length = bulk xs := fun xs => by
      induction xs with
      | nil => intro _; rfl
      | cons x xs ih =>
        intro h
        simp only [bulk] at h
        rw [cat_cons, List.length_append, tn_length, ih (by omega)]
        simp only [bulk]; omega
    rw [this xs h]; exact h
def LongIs (xs : List ByteArray) (r : Bool) : Prop := r = false → xs.length ≤ 30 ∧ (cat xs).length ≤ 700
set_option maxRecDepth 100000 in
set_option maxHeartbeats 1000000 in
theorem long_any (a : Option Addr) (xs : List ByteArray) (c : Nat) (w : World) (hp : Pts w a xs) (hm : xs.length ≤ maxLen) (hs : ∀ x ∈ xs, x.size ≤ maxLen) :
    Calls Tryd.prog 14 #[.slice a xs.length c] w fun e w' => (∃ r, e = .returned (.bool r) ∧ LongIs xs r) ∧ w = w' := by
  have hmax : maxLen ≤ 9223372036854775807 := by decide
  by_cases h30 : 30 < xs.length
  · have d0 : 30 < (xs.length : Int) := by omega
    go_enter Tryd.func14, Tryd.ntmps14
    go_wp2_with fail
    go_ret
    exact ⟨⟨true, rfl, fun h => by cases h⟩, rfl⟩
  · have d0 : decide (30 < (xs.length : Int)) = false := by simp; omega
    have HS := Lib.hid hs
    clear hs
    go_enter Tryd.func14, Tryd.ntmps14
    go_wp2_with fail
    go_loopw [3, 4] (fun s' i' wr => ∃ j v : Nat, j ≤ xs.length ∧ v = bulk (xs.take j) ∧ s' = .int .i64 v ∧ i' = .int .i64 j ∧ wr = w) (fun _ i _ => xs.length - (intOf i).toNat)
    case atStart => exact ⟨0, 0, by omega, rfl, rfl, rfl, rfl⟩
    case round =>
      obtain ⟨j, v, hj, hv, rfl, rfl, rfl⟩ := hrel
      have hvb : v ≤ 60000 := by
        have := bulk_le (xs.take j)
        rw [List.length_take] at this
        omega
      by_cases hlt : j < xs.length
      · have hji : (j : Int) < (xs.length : Int) := by omega
        have en := bulk_next xs j hlt
        rcases hp with h | ⟨g, o, rfl, hg, hcell⟩
        · subst h; exact absurd hlt (by simp)
        · have c1 := hcell j xs[j] (by simp [hlt])
          have hsz : (xs[j]).size ≤ maxLen := HS.out _ (List.getElem_mem hlt)
          obtain ⟨x, hx⟩ : ∃ x, x = xs[j] := ⟨_, rfl⟩
          rw [← hx] at en c1 hsz
          obtain ⟨m, hm'⟩ : ∃ m, m = min x.size 2000 := ⟨_, rfl⟩
          have e1 : min (x.size : Int) 2000 = (m : Int) := by omega
          have hm2 : m ≤ 2000 := by omega
          have e2 : IntKind.i64.wrap ((v : Int) + (m : Int)) = (v : Int) + (m : Int) := IntWalk.i64_in _ (by omega)
          rw [← hm', ← hv] at en
          have HE := Lib.hid en
          clear hx hcell en hv hm'
          go_wp2_with fail
          go_roundw
          case rel => exact ⟨j + 1, v + m, by omega, HE.out.symm, by go_num, by go_num, trivial⟩
          case measure => simp [intOf]; omega
      · obtain rfl : j = xs.length := by omega
        rw [List.take_length] at hv
        by_cases h700 : 700 < v
        · have d1 : 700 < (v : Int) := by omega
          clear hv
          go_wp2_with fail
          go_ret
          exact ⟨⟨true, rfl, fun h => by cases h⟩, rfl⟩
        · have d1 : decide (700 < (v : Int)) = false := by simp; omega
          have hcb := cat_bulk xs (by omega)
          have HC := Lib.hid hcb
          clear hv hcb
          go_wp2_with fail
          go_ret
          exact ⟨⟨false, rfl, fun _ => ⟨by omega, HC.out⟩⟩, rfl⟩
end Go.Proofs.YtaabefafafdndaaDoor
