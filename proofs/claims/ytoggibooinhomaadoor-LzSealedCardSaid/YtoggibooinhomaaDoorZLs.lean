/-
  THE WALKS of the document's same, best and run.
-/
import Derived.Test.YtoggibooinhomaaDoorZLb
import Derived.RegionTactic
import Derived.BigRegion
import Derived.Deep.RegionWith
namespace Go.Proofs.YtoggibooinhomaaDoor.Z
open Go.RowKit
set_option linter.unusedVariables false
set_option linter.unusedSimpArgs false
theorem ret_int {k : IntKind} {a b : Int} (h : a = b) : Ending.returned (.int k a) = .returned (.int k b) := by rw [h]
theorem get_toL (s : ByteArray) (i : Nat) (h : i < s.size) : (toL s)[i]? = some s[i] := by
  rw [List.getElem?_eq_getElem (by rw [toL_len]; exact h)]
  rfl
/-- so many bytes stand alike at two places -/
def Alike (l : List UInt8) (i j k : Nat) : Prop := k ≤ 131 ∧ i + k ≤ l.length ∧ ∀ m, m < k → l[i + m]? = l[j + m]?
theorem alike_next {s : ByteArray} {i j k : Nat} (h : Alike (toL s) i j k) (h1 : i + k < s.size) (h2 : k < 131) (hji : j ≤ i) (e : s[i + k] = s[j + k]) : Alike (toL s) i j (k + 1) := by
  refine ⟨by omega, by rw [toL_len]; omega, fun m hm => ?_⟩
  by_cases hmk : m = k
  · subst hmk
    rw [get_toL s _ h1, get_toL s _ (by omega), e]
  · exact h.2.2 m (by omega)
theorem alike_end {s : ByteArray} {i j k : Nat} (h : Alike (toL s) i j k) (hji : j ≤ i) (e : k = 131 ∨ i + k = s.size ∨ ∃ h1 : i + k < s.size, s[i + k] ≠ s[j + k]) : Lz.sm (toL s) i j = k := by
  refine Lz.sm_eq _ i j k hji h.1 h.2.1 h.2.2 ?_
  rcases e with e | e | ⟨h1, e⟩
  · exact .inl e
  · right; left; rw [toL_len]; exact e
  · right; right
    rw [get_toL s _ h1, get_toL s _ (by omega)]
    simpa using e
theorem byte_ne {a b : UInt8} (h : a ≠ b) : ((a.toNat : Int) == (b.toNat : Int)) = false := by
  rw [beq_eq_false_iff_ne]
  intro e
  exact h (UInt8.toNat_inj.1 (by omega))
/-- the best so far -/
def BstIs (l : List UInt8) (i k : Nat) (n far : Value) : Prop := n = .int .i64 ((Lz.bst l i k).1 : Nat) ∧ far = .int .i64 ((Lz.bst l i k).2 : Nat)
theorem ret_two {a b c d : Int} (h : a = b) (h' : c = d) : Ending.returned (.tuple #[.int .i64 a, .int .i64 c]) = .returned (.tuple #[.int .i64 b, .int .i64 d]) := by rw [h, h']
/-! texts put together -/
theorem conv_one (W : World) (g : Nat) (x : Int) (h : W.cell? ⟨g, 0, none⟩ = some (.int .u8 x)) : (convert 36 9 (.slice (some ⟨g, 0, none⟩) 1 1)).run Tryd.prog W = .ok (.string ⟨#[UInt8.ofNat x.toNat]⟩) W := by
  refine run_convert_bytes_arg _ 36 5 Tryd.underlying36 Tryd.underlying5 g 0 1 1 [x] rfl (fun i hi => ?_) 9 Tryd.underlying9
  obtain rfl : i = 0 := by omega
  exact h
theorem own1 (w : World) (v : Value) (t : TypeId) : (w.alloc (.cells #[v] t)).cell? ⟨w.heap.size, 0, none⟩ = some v := by
  have h : (w.alloc (.cells #[v] t)).heap[w.heap.size]? = some (.cells #[v] t (0, 0)) := by
    show (w.heap.push _)[w.heap.size]? = _
    simp
  unfold World.cell?
  rw [h]
  rfl
theorem conv_new (W : World) (x : Int) : (convert 36 9 (.slice (some ⟨W.heap.size, 0, none⟩) 1 1)).run Tryd.prog (W.alloc (.cells #[.int .u8 x] 5)) = .ok (.string ⟨#[UInt8.ofNat x.toNat]⟩) (W.alloc (.cells #[.int .u8 x] 5)) :=
  conv_one _ _ x (own1 _ _ _)
theorem conv_new_drew (W : World) (x : Int) : (convert 36 9 (.slice (some ⟨W.heap.size, 0, none⟩) 1 1)).run Tryd.prog (W.alloc (.cells #[.int .u8 x] 5)).drew = .ok (.string ⟨#[UInt8.ofNat x.toNat]⟩) (W.alloc (.cells #[.int .u8 x] 5)).drew :=
  conv_one _ _ x (own1 _ _ _)
theorem rstr {a b : ByteArray} (h : a = b) : Ending.returned (.string a) = .returned (.string b) := by rw [h]
theorem toL_append (a b : ByteArray) : toL (a ++ b) = toL a ++ toL b := by unfold toL; simp
theorem toL_mk (l : List UInt8) : toL ⟨l.toArray⟩ = l := by unfold toL; simp
theorem toL_one (c : UInt8) : toL ⟨#[c]⟩ = [c] := rfl
theorem alloc_size (w : World) (o : Obj) : (w.alloc o).heap.size = w.heap.size + 1 := Array.size_push ..
end Go.Proofs.YtoggibooinhomaaDoor.Z
