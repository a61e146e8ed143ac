/-
  THE WALKS of the question whether a program may be: the code's and the document's.
-/
import Derived.Test.YtkbelpkmlmfedaaNp
import Derived.Test.YtkbelpkmlmfedaaNb
import Derived.Test.YtkbelpkmlmfedaaEm
import Derived.Deep.QuietTactic
import Derived.BigQuiet
import Derived.IntWalk
namespace Go.Proofs.Ytkbelpkmlmfedaa
set_option linter.unusedVariables false
set_option maxRecDepth 100000
set_option linter.unusedSimpArgs false
open Go.RowKit
namespace Xe
open _root_.Go.Proofs.Ytkbelpkmlmfedaa.Nm
/-- a program as it lies: words, data, room, entry -/
structure Xv where
  a : Option Addr
  n : Nat
  c : Nat
  d : ByteArray
  r : Int
  e : Nat
def Xv.cs (x : Xv) : Array Value := #[.slice x.a x.n x.c, .string x.d, .int .i64 x.r, .int .u32 (x.e : Nat)]
structure Xv.Ok (x : Xv) : Prop where
  n : x.n ≤ 9223372036854775807
  d : x.d.size ≤ 9223372036854775807
  r0 : -9223372036854775808 ≤ x.r
  r1 : x.r ≤ 9223372036854775807
  e : x.e < 4294967296
structure At (W : World) (g : Nat) (x : Xv) : Prop where
  c0 : W.cell? ⟨g, 0, none⟩ = some (.slice x.a x.n x.c)
  c1 : W.cell? ⟨g, 1, none⟩ = some (.string x.d)
  c2 : W.cell? ⟨g, 2, none⟩ = some (.int .i64 x.r)
  c3 : W.cell? ⟨g, 3, none⟩ = some (.int .u32 (x.e : Nat))
theorem at_new (w : World) (x : Xv) (t : TypeId) : At (w.alloc (Obj.cells x.cs t)) w.heap.size x := by
  have h : (w.alloc (Obj.cells x.cs t)).heap[w.heap.size]? = some (.cells x.cs t (0, 0)) := by
    show (w.heap.push _)[w.heap.size]? = _
    simp
  generalize w.alloc (Obj.cells x.cs t) = V at *
  generalize w.heap.size = g at *
  constructor <;> (unfold World.cell?; rw [h]; rfl)
theorem At.below {w w1 : World} {g : Nat} {x : Xv} (o : At w g x) (hg : g < w.heap.size) (hx : Below w.heap.size w w1) : At w1 g x :=
  ⟨(hx.cell hg).trans o.c0, (hx.cell hg).trans o.c1, (hx.cell hg).trans o.c2, (hx.cell hg).trans o.c3⟩
theorem grow (wr : World) (o : Obj) : Below wr.heap.size wr (wr.alloc o) := (Below.refl _ _).alloc (Nat.le_refl _) _
theorem below_drewN {B : Nat} {a w : World} (h : Below B a w) (n : Nat) : Below B a (w.drewN n) := h.trans ⟨rfl, rfl, rfl, Nat.le_refl _, fun _ _ => rfl⟩
/-- by numbers alone -/
def badN (n z : Nat) (r : Int) (e : Nat) : Prop := n < 1 ∨ 448 < n ∨ e % 4 ≠ 0 ∨ 4 * n ≤ e ∨ r < 0 ∨ 1792 < r ∨ 1792 < z ∨ 14 < Em.pg (4 * (n : Int)) + Em.pg ((z : Int) + r)
instance (n z : Nat) (r : Int) (e : Nat) : Decidable (badN n z r e) := by unfold badN; infer_instance
def chkN (x : Xv) : Nat := if badN x.n x.d.size x.r x.e then 1 else 0
theorem chkN_bad {x : Xv} (h : badN x.n x.d.size x.r x.e) : chkN x = 1 := if_pos h
theorem chkN_ok {x : Xv} (h : ¬ badN x.n x.d.size x.r x.e) : chkN x = 0 := if_neg h
theorem pages_any (m : Int) (w : World) (h0 : 0 ≤ m) (h1 : m ≤ 1000000) : Calls Try.prog 47 #[.int .i64 m] w fun e w' => e = .returned (.int .i64 (Em.pg m)) ∧ w = w' := by
  have e : Em.pg m = (m + 128 - 1) / 128 := by unfold Em.pg; congr 1; omega
  rw [e]
  go_enter Try.func47, Try.ntmps47
  go_wp2_with fail
  go_ret
  simp
theorem rpages_any (m : Int) (w : World) (h0 : 0 ≤ m) (h1 : m ≤ 1000000) : Calls Try.prog 48 #[.int .i64 m] w fun e w' => e = .returned (.int .i64 (Em.pg m)) ∧ w = w' := by
  have e : Em.pg m = (m + 127) / 128 := rfl
  rw [e]
  go_enter Try.func48, Try.ntmps48
  go_wp2_with fail
  go_ret
  simp
set_option maxHeartbeats 4000000 in
theorem check_any (x : Xv) (hx : x.Ok) (w : World) :
    Calls Try.prog 19 #[.agg x.cs] w fun e w' => e = .returned (.int .i64 (chkN x : Nat)) ∧ Below w.heap.size w w' := by
  obtain ⟨k0, k1, k2, k3⟩ := at_new w x 25
  obtain ⟨a, n, c, d, r, e⟩ := x
  obtain ⟨hn, hd, r0, r1, he⟩ := hx
  dsimp only at *
  unfold chkN
  dsimp only
  by_cases h0 : n < 1
  · rw [if_pos (by unfold badN; omega)]
    have d0 : (n : Int) < 1 := by omega
    go_enter Try.func19, Try.ntmps19
    go_wp2_with fail
    go_ret
    exact ⟨rfl, grow _ _⟩
  have d0 : ¬ (n : Int) < 1 := by omega
  by_cases h1 : 448 < n
  · rw [if_pos (by unfold badN; omega)]
    have d1 : (448 : Int) < (n : Int) := by omega
    go_enter Try.func19, Try.ntmps19
    go_wp2_with fail
    go_ret
    exact ⟨rfl, grow _ _⟩
  have d1 : ¬ (448 : Int) < (n : Int) := by omega
  by_cases h2 : e % 4 ≠ 0
  · rw [if_pos (by unfold badN; omega)]
    have d2 : ¬ ((e : Int) % 4 = 0) := by omega
    go_enter Try.func19, Try.ntmps19
    go_wp2_with fail
    go_ret
    exact ⟨rfl, grow _ _⟩
  have d2 : (e : Int) % 4 = 0 := by omega
  by_cases h3 : 4 * n ≤ e
  · rw [if_pos (by unfold badN; omega)]
    have d3 : 4 * (n : Int) ≤ (e : Int) := by omega
    go_enter Try.func19, Try.ntmps19
    go_wp2_with fail
    go_ret
    exact ⟨rfl, grow _ _⟩
  have d3 : ¬ 4 * (n : Int) ≤ (e : Int) := by omega
  by_cases h4 : r < 0
  · rw [if_pos (by unfold badN; omega)]
    have d4 : r < 0 := by omega
    go_enter Try.func19, Try.ntmps19
    go_wp2_with fail
    go_ret
    exact ⟨rfl, grow _ _⟩
  have d4 : ¬ r < 0 := by omega
  by_cases h5 : 1792 < r
  · rw [if_pos (by unfold badN; omega)]
    have d5 : 1792 < r := by omega
    go_enter Try.func19, Try.ntmps19
    go_wp2_with fail
    go_ret
    exact ⟨rfl, grow _ _⟩
  have d5 : ¬ 1792 < r := by omega
  by_cases h6 : 1792 < d.size
  · rw [if_pos (by unfold badN; omega)]
    have d6 : 1792 < (d.size : Int) := by omega
    go_enter Try.func19, Try.ntmps19
    go_wp2_with fail
    go_ret
    exact ⟨rfl, grow _ _⟩
  have d6 : ¬ 1792 < (d.size : Int) := by omega
  by_cases h8 : 14 < Em.pg (4 * (n : Int)) + Em.pg ((d.size : Int) + r)
  · rw [if_pos (by unfold badN; omega)]
    have s1 : IntKind.i64.wrap (4 * (n : Int)) = 4 * (n : Int) := IntWalk.i64_in _ (by omega)
    have s2 : IntKind.i64.wrap ((d.size : Int) + r) = (d.size : Int) + r := IntWalk.i64_in _ (by omega)
    have p1 := fun w => pages_any (4 * (n : Int)) w (by omega) (by omega)
    have p2 := fun w => pages_any ((d.size : Int) + r) w (by omega) (by omega)
    have q1 : 0 ≤ Em.pg (4 * (n : Int)) ∧ Em.pg (4 * (n : Int)) ≤ 100 := by unfold Em.pg; omega
    have q2 : 0 ≤ Em.pg ((d.size : Int) + r) ∧ Em.pg ((d.size : Int) + r) ≤ 100 := by unfold Em.pg; omega
    obtain ⟨q10, q11⟩ := q1
    obtain ⟨q20, q21⟩ := q2
    generalize Em.pg (4 * (n : Int)) = A at *
    generalize Em.pg ((d.size : Int) + r) = B at *
    have s3 : IntKind.i64.wrap (A + B) = A + B := IntWalk.i64_in _ (by omega)
    go_enter Try.func19, Try.ntmps19
    go_wp2_with fail
    go_quiet ((go_at_call 47; first | exact (p1 _).mono fun _ _ h => ⟨h.1, _, h.2.symm⟩ | exact (p2 _).mono fun _ _ h => ⟨h.1, _, h.2.symm⟩))
    go_wp2_with fail
    go_ret
    exact ⟨rfl, below_drewN (grow _ _) _⟩
  · rw [if_neg (by unfold badN; unfold Em.pg at h8 ⊢; omega)]
    have s1 : IntKind.i64.wrap (4 * (n : Int)) = 4 * (n : Int) := IntWalk.i64_in _ (by omega)
    have s2 : IntKind.i64.wrap ((d.size : Int) + r) = (d.size : Int) + r := IntWalk.i64_in _ (by omega)
    have p1 := fun w => pages_any (4 * (n : Int)) w (by omega) (by omega)
    have p2 := fun w => pages_any ((d.size : Int) + r) w (by omega) (by omega)
    have q1 : 0 ≤ Em.pg (4 * (n : Int)) ∧ Em.pg (4 * (n : Int)) ≤ 100 := by unfold Em.pg; omega
    have q2 : 0 ≤ Em.pg ((d.size : Int) + r) ∧ Em.pg ((d.size : Int) + r) ≤ 100 := by unfold Em.pg; omega
    obtain ⟨q10, q11⟩ := q1
    obtain ⟨q20, q21⟩ := q2
    generalize Em.pg (4 * (n : Int)) = A at *
    generalize Em.pg ((d.size : Int) + r) = B at *
    have s3 : IntKind.i64.wrap (A + B) = A + B := IntWalk.i64_in _ (by omega)
    go_enter Try.func19, Try.ntmps19
    go_wp2_with fail
    go_quiet ((go_at_call 47; first | exact (p1 _).mono fun _ _ h => ⟨h.1, _, h.2.symm⟩ | exact (p2 _).mono fun _ _ h => ⟨h.1, _, h.2.symm⟩))
    go_wp2_with fail
    go_ret
    exact ⟨rfl, below_drewN (grow _ _) _⟩
set_option maxHeartbeats 4000000 in
theorem rcheck_any (x : Xv) (hx : x.Ok) (w : World) :
    Calls Try.prog 20 #[.agg x.cs] w fun e w' => e = .returned (.int .i64 (chkN x : Nat)) ∧ Below w.heap.size w w' := by
  obtain ⟨k0, k1, k2, k3⟩ := at_new w x 25
  obtain ⟨a, n, c, d, r, e⟩ := x
  obtain ⟨hn, hd, r0, r1, he⟩ := hx
  dsimp only at *
  unfold chkN
  dsimp only
  by_cases h0 : n < 1
  · rw [if_pos (by unfold badN Em.pg; omega)]
    have d0 : (n : Int) < 1 := by omega
    go_enter Try.func20, Try.ntmps20
    go_wp2_with fail
    go_ret
    exact ⟨rfl, grow _ _⟩
  have d0 : ¬ (n : Int) < 1 := by omega
  by_cases h1 : 448 < n
  · rw [if_pos (by unfold badN Em.pg; omega)]
    have d1 : (448 : Int) < (n : Int) := by omega
    go_enter Try.func20, Try.ntmps20
    go_wp2_with fail
    go_ret
    exact ⟨rfl, grow _ _⟩
  have d1 : ¬ (448 : Int) < (n : Int) := by omega
  by_cases h2 : r < 0
  · rw [if_pos (by unfold badN Em.pg; omega)]
    have d2 : r < 0 := by omega
    go_enter Try.func20, Try.ntmps20
    go_wp2_with fail
    go_ret
    exact ⟨rfl, grow _ _⟩
  have d2 : ¬ r < 0 := by omega
  by_cases h3 : 2048 < r
  · rw [if_pos (by unfold badN Em.pg; omega)]
    have d3 : 2048 < r := by omega
    go_enter Try.func20, Try.ntmps20
    go_wp2_with fail
    go_ret
    exact ⟨rfl, grow _ _⟩
  have d3 : ¬ 2048 < r := by omega
  by_cases h4 : 2048 < d.size
  · rw [if_pos (by unfold badN Em.pg; omega)]
    have d4 : 2048 < (d.size : Int) := by omega
    go_enter Try.func20, Try.ntmps20
    go_wp2_with fail
    go_ret
    exact ⟨rfl, grow _ _⟩
  have d4 : ¬ 2048 < (d.size : Int) := by omega
  by_cases h5 : e % 4 ≠ 0
  · rw [if_pos (by unfold badN Em.pg; omega)]
    have d5 : ¬ ((e : Int) % 4 = 0) := by omega
    go_enter Try.func20, Try.ntmps20
    go_wp2_with fail
    go_ret
    exact ⟨rfl, grow _ _⟩
  have d5 : (e : Int) % 4 = 0 := by omega
  by_cases h6 : 4 * n ≤ e
  · rw [if_pos (by unfold badN Em.pg; omega)]
    have d6 : 4 * (n : Int) ≤ (e : Int) := by omega
    go_enter Try.func20, Try.ntmps20
    go_wp2_with fail
    go_ret
    exact ⟨rfl, grow _ _⟩
  have d6 : ¬ 4 * (n : Int) ≤ (e : Int) := by omega
  by_cases h8 : 14 < Em.pg (4 * (n : Int)) + Em.pg ((d.size : Int) + r)
  · rw [if_pos (by unfold badN; omega)]
    have s1 : IntKind.i64.wrap (4 * (n : Int)) = 4 * (n : Int) := IntWalk.i64_in _ (by omega)
    have s2 : IntKind.i64.wrap ((d.size : Int) + r) = (d.size : Int) + r := IntWalk.i64_in _ (by omega)
    have p1 := fun w => rpages_any (4 * (n : Int)) w (by omega) (by omega)
    have p2 := fun w => rpages_any ((d.size : Int) + r) w (by omega) (by omega)
    have q1 : 0 ≤ Em.pg (4 * (n : Int)) ∧ Em.pg (4 * (n : Int)) ≤ 100 := by unfold Em.pg; omega
    have q2 : 0 ≤ Em.pg ((d.size : Int) + r) ∧ Em.pg ((d.size : Int) + r) ≤ 100 := by unfold Em.pg; omega
    obtain ⟨q10, q11⟩ := q1
    obtain ⟨q20, q21⟩ := q2
    generalize Em.pg (4 * (n : Int)) = A at *
    generalize Em.pg ((d.size : Int) + r) = B at *
    have s3 : IntKind.i64.wrap (A + B) = A + B := IntWalk.i64_in _ (by omega)
    go_enter Try.func20, Try.ntmps20
    go_wp2_with fail
    go_quiet ((go_at_call 48; first | exact (p1 _).mono fun _ _ h => ⟨h.1, _, h.2.symm⟩ | exact (p2 _).mono fun _ _ h => ⟨h.1, _, h.2.symm⟩))
    go_wp2_with fail
    go_ret
    exact ⟨rfl, below_drewN (grow _ _) _⟩
  · rw [if_neg (by unfold badN; unfold Em.pg at h8 ⊢; omega)]
    have s1 : IntKind.i64.wrap (4 * (n : Int)) = 4 * (n : Int) := IntWalk.i64_in _ (by omega)
    have s2 : IntKind.i64.wrap ((d.size : Int) + r) = (d.size : Int) + r := IntWalk.i64_in _ (by omega)
    have p1 := fun w => rpages_any (4 * (n : Int)) w (by omega) (by omega)
    have p2 := fun w => rpages_any ((d.size : Int) + r) w (by omega) (by omega)
    have q1 : 0 ≤ Em.pg (4 * (n : Int)) ∧ Em.pg (4 * (n : Int)) ≤ 100 := by unfold Em.pg; omega
    have q2 : 0 ≤ Em.pg ((d.size : Int) + r) ∧ Em.pg ((d.size : Int) + r) ≤ 100 := by unfold Em.pg; omega
    obtain ⟨q10, q11⟩ := q1
    obtain ⟨q20, q21⟩ := q2
    generalize Em.pg (4 * (n : Int)) = A at *
    generalize Em.pg ((d.size : Int) + r) = B at *
    have s3 : IntKind.i64.wrap (A + B) = A + B := IntWalk.i64_in _ (by omega)
    go_enter Try.func20, Try.ntmps20
    go_wp2_with fail
    go_quiet ((go_at_call 48; first | exact (p1 _).mono fun _ _ h => ⟨h.1, _, h.2.symm⟩ | exact (p2 _).mono fun _ _ h => ⟨h.1, _, h.2.symm⟩))
    go_wp2_with fail
    go_ret
    exact ⟨rfl, below_drewN (grow _ _) _⟩
end Xe
end Go.Proofs.Ytkbelpkmlmfedaa
