/-
  Pages that a call makes by appending; zeros; THE WALKS of the functions that lay them.
-/
import Derived.Test.YtkbelpkmlmfedaaEb
import Derived.Test.YtkbelpkmlmfedaaEs
import Derived.OwnWalk
import Derived.Deep.AppendLies
import Derived.Maps.AppendAt
namespace Go.Proofs.Ytkbelpkmlmfedaa
set_option linter.unusedVariables false
set_option maxRecDepth 100000
set_option linter.unusedSimpArgs false
open Go.RowKit
namespace Xe
open _root_.Go.Proofs.Ytkbelpkmlmfedaa.Nm
/-- a page: its number, its bytes, whether it may be written -/
structure Pg where
  i : Nat
  d : ByteArray
  w : Bool
def fl (l : List Pg) : List Value := l.flatMap fun x => [.int .i64 (x.i : Nat), .string x.d, .bool x.w]
theorem fl_append (a b : List Pg) : fl (a ++ b) = fl a ++ fl b := by simp [fl]
theorem fl_length (l : List Pg) : (fl l).length = l.length * 3 := by
  induction l with
  | nil => rfl
  | cons x l ih => simp [fl] at ih ⊢; omega
theorem fl_get (l : List Pg) (j : Nat) (x : Pg) (h : l[j]? = some x) : (fl l)[j * 3]? = some (.int .i64 (x.i : Nat)) ∧ (fl l)[j * 3 + 1]? = some (.string x.d) ∧ (fl l)[j * 3 + 2]? = some (.bool x.w) := by
  induction l generalizing j with
  | nil => simp at h
  | cons y l ih =>
    have e : fl (y :: l) = [.int .i64 (y.i : Nat), .string y.d, .bool y.w] ++ fl l := rfl
    cases j with
    | zero => simp at h; subst h; rw [e]; exact ⟨rfl, rfl, rfl⟩
    | succ j =>
      have := ih j (by simpa using h)
      rw [e, show (j + 1) * 3 = j * 3 + 3 from by omega]
      rw [List.getElem?_append_right (by simp), List.getElem?_append_right (by simp), List.getElem?_append_right (by simp)]
      simp only [List.length_cons, List.length_nil]
      rw [show j * 3 + 3 - (0 + 1 + 1 + 1) = j * 3 from by omega, show j * 3 + 3 + 1 - (0 + 1 + 1 + 1) = j * 3 + 1 from by omega, show j * 3 + 3 + 2 - (0 + 1 + 1 + 1) = j * 3 + 2 from by omega]
      exact this
theorem info40 : (Try.prog.info? 40).map (fun i => (i.zero, i.size, i.bytes)) = some (some (.agg #[.int .i64 0, .string ⟨#[]⟩, .bool false]), 3, 32) := by kernel_rfl
/-- a row of pages of the call's own -/
def RP (w : World) (B : Nat) (A : Option Addr) (n cap : Nat) (l : List Pg) : Prop := l.length = n ∧ w.ownsRow B 40 3 (.slice A n cap) n (fl l)
theorem RP.nil (w : World) (B : Nat) : RP w B none 0 0 [] := ⟨rfl, w.ownsRow_nil B 40 3⟩
theorem RP.below {w w' : World} {B : Nat} {A : Option Addr} {n cap : Nat} {l : List Pg} (h : RP w B A n cap l) (hb : Below w.heap.size w w') : RP w' B A n cap l :=
  ⟨h.1, h.2.kept (row := none) ⟨hb.os, hb.tape, hb.output, hb.size, fun k hk _ => hb.block k hk⟩ (by
    by_cases h : (Value.slice A n cap).ownBlock = none
    · exact .inl h
    · exact .inr h)⟩
theorem RP.form {w : World} {B : Nat} {A : Option Addr} {n cap : Nat} {l : List Pg} (h : RP w B A n cap l) : (A = none ∧ n = 0) ∨ ∃ g, A = some ⟨g, 0, none⟩ ∧ B ≤ g ∧ g < w.heap.size := by
  rcases h.2.2 with ⟨h1, h2⟩ | ⟨g, c, cur, h1, h2, h3, _⟩
  · injection h1 with h1 _ _
    exact .inl ⟨h1, h2⟩
  · injection h1 with h1 _ _
    exact .inr ⟨g, h1, h2, lt_of_block h3⟩
theorem RP.empty {w : World} {B g : Nat} (h : Own w g 40 #[]) (hB : B ≤ g) : RP w B (some ⟨g, 0, none⟩) 0 0 [] :=
  ⟨rfl, rfl, .inr ⟨g, 0, #[], rfl, hB, h, Nat.le_refl _, by simp, rfl, rfl⟩⟩
/-- what lies at a page -/
theorem RP.cells {w : World} {B g : Nat} {n cap : Nat} {l : List Pg} (h : RP w B (some ⟨g, 0, none⟩) n cap l) (j : Nat) (x : Pg) (hx : l[j]? = some x) :
    w.cell? ⟨g, j * 3, none⟩ = some (.int .i64 (x.i : Nat)) ∧ w.cell? ⟨g, j * 3 + 1, none⟩ = some (.string x.d) ∧ w.cell? ⟨g, j * 3 + 2, none⟩ = some (.bool x.w) := by
  obtain ⟨f1, f2, f3⟩ := fl_get l j x hx
  have c1 := h.2.cells (g := g) rfl _ _ f1
  have c2 := h.2.cells (g := g) rfl _ _ f2
  have c3 := h.2.cells (g := g) rfl _ _ f3
  rw [Nm.addr_add, Nat.zero_add] at c1 c2 c3
  exact ⟨c1, c2, c3⟩
/-- one page more -/
theorem app_page {w : World} {ops : Array Oper} {rest : List Oper} {o : Oper} {a : Act} {Q : Exit → Act → World → Prop} (hgd : o.guard = none) (s x : Operand)
    (ho : o.op = .call { callee := .builtin .append, args := #[s, x], argTypes := #[36, 36] })
    (B : Nat) (A : Option Addr) (n cap : Nat) (l : List Pg) (hs : a.eval s = .slice A n cap) (hr : RP w B A n cap l)
    (g1 c : Nat) (y : Pg) (hx : a.eval x = .slice (some ⟨g1, 0, none⟩) 1 c) (hy1 : w.cell? ⟨g1, 0, none⟩ = some (.int .i64 (y.i : Nat))) (hy2 : w.cell? ⟨g1, 1, none⟩ = some (.string y.d)) (hy3 : w.cell? ⟨g1, 2, none⟩ = some (.bool y.w)) (hn : n ≤ 1000) (hB : B ≤ w.heap.size) (H : Nat) (hH : w.heap.size = H)
    (h : ∀ g cap' w', RP w' B (some ⟨g, 0, none⟩) (n + 1) cap' (l ++ [y]) → Below B w w' →
      wpList Try.prog ops Q rest (a.put o.dst (.slice (some ⟨g, 0, none⟩) (n + 1) cap')) w') : wpList Try.prog ops Q (o :: rest) a w := by
  obtain ⟨i0, hi, hz0, hz1, hz2⟩ := info_parts info40
  refine wpList_append_lies w hgd s x 36 ho B 40 i0 _ 3 32 Try.underlying36 hi hz0 hz1 hz2 rfl (by decide) _ n (fl l) hs hr.2 ⟨g1, 0, none⟩ 1 c [.int .i64 (y.i : Nat), .string y.d, .bool y.w] hx rfl ?_ ?_ (by omega)
    (by unfold maxLen; omega) (by omega) hB H hH ?_
  · intro j u hu
    match j, hu with
    | 0, hu => simp at hu; subst hu; exact hy1
    | 1, hu => simp at hu; subst hu; exact hy2
    | 2, hu => simp at hu; subst hu; exact hy3
    | j + 3, hu => simp at hu
  · intro u hu
    simp at hu
    rcases hu with rfl | rfl | rfl <;> rfl
  · intro g cap' w' h1 h2 h3 _
    refine h g cap' w' ⟨by simp [hr.1], by rw [fl_append]; exact h1⟩ ?_
    refine (Below.refl B w).grown h2 hB fun k hk => ?_
    exact (hr.2.lt k hk).1
/-- zeros -/
def zs (n : Nat) : ByteArray := ⟨(List.replicate n 0).toArray⟩
theorem zs_size (n : Nat) : (zs n).size = n := by show (List.replicate n (0 : UInt8)).toArray.size = n; simp
theorem zs_next (n : Nat) : zs n ++ ⟨#[0]⟩ = zs (n + 1) := by
  apply toL_inj
  simp [toL, zs, List.replicate_succ']
theorem rep_zs (n : Nat) : (⟨(Lib.repeatL (⟨#[0]⟩ : ByteArray).data.toList n).toArray⟩ : ByteArray) = zs n := by
  unfold zs
  congr 2
  induction n with
  | zero => rfl
  | succ n ih => rw [Lib.repeatL, ih]; rfl
theorem repeat_any (n : Nat) (w : World) (h : n ≤ 100000) : Calls Try.prog 52 #[.string ⟨#[0]⟩, .int .i64 n] w fun e w' => e = .returned (.string (zs n)) ∧ Below w.heap.size w w' := by
  have := Try.strings_Repeat ⟨#[0]⟩ n w (by omega) (by show 1 * n ≤ _; omega)
  rw [rep_zs] at this
  exact this
theorem zeros_any (n : Nat) (w : World) (h : n ≤ 100000) : Calls Try.prog 54 #[.int .i64 n] w fun e w' => e = .returned (.string (zs n)) ∧ w = w' := by
  go_enter Try.func54, Try.ntmps54
  go_wp2_with fail
  go_loopw [3, 4] (fun o i wr => ∃ k : Nat, k ≤ n ∧ i = .int .i64 k ∧ o = .string (zs k) ∧ w = wr) (fun _ i _ => n - (intOf i).toNat)
  case atStart => exact ⟨0, Nat.zero_le _, rfl, rfl, rfl⟩
  case round =>
    obtain ⟨k, hk, rfl, rfl, rfl⟩ := hrel
    have z := zs_size k
    have HN := Lib.hid (zs_next k)
    by_cases hlt : k < n
    · have y : ¬ 9223372036854775807 < k + 1 := by omega
      go_wp2_with fail
      go_roundw
      case rel => exact ⟨k + 1, by omega, by go_num, by rw [HN.out], by simp⟩
      case measure => simp [intOf]; omega
    · obtain rfl : k = n := by omega
      go_wp2_with fail
      go_ret
      exact ⟨rfl, rfl⟩
/-- how many pages -/
def pn (n : Nat) : Nat := (n + 127) / 128
theorem pg_pn (n : Nat) : Em.pg (n : Int) = (pn n : Int) := by unfold Em.pg pn; omega
/-- filled up to whole pages -/
def pad (b : ByteArray) : ByteArray := b ++ zs (128 * pn b.size - b.size)
theorem pad_size (b : ByteArray) : (pad b).size = 128 * pn b.size := by
  unfold pad
  rw [ByteArray.size_append, zs_size]
  unfold pn; omega
/-- pages out of bytes, from a number on -/
def pp (s : Nat) (b : ByteArray) (wr : Bool) (k : Nat) : List Pg := (List.range k).map fun i => ⟨s + i, b.extract (128 * i) (128 * i + 128), wr⟩
theorem pp_len (s : Nat) (b : ByteArray) (wr : Bool) (k : Nat) : (pp s b wr k).length = k := by simp [pp]
theorem pp_next (s : Nat) (b : ByteArray) (wr : Bool) (k : Nat) : pp s b wr (k + 1) = pp s b wr k ++ [⟨s + k, b.extract (128 * k) (128 * k + 128), wr⟩] := by
  simp [pp, List.range_succ]
end Xe
end Go.Proofs.Ytkbelpkmlmfedaa
