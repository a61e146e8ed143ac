/-
  Rows of bytes that a call makes by appending: one byte more, a text more, read as a text; worlds that differ in a few blocks.
-/
import Derived.Test.YtoggibooinhomaaDoorProg
import Derived.Test.YtoggibooinhomaaDoorZLm
import Derived.WalkKit
import Derived.WalkSpells
import Derived.Lib.Hide
import Derived.Below
import Derived.WalkLawsBesides
import Derived.Deep.QuietTactic
import Derived.BigQuiet
import Derived.IntWalk
import Derived.Laws.BitsAllLaws
import Derived.Laws.BytesArg
import Derived.OwnWalk
import Derived.Lib.BufSteps
import Derived.Lib.AppendStr
namespace Go.Proofs.YtoggibooinhomaaDoor.Z
open Go.RowKit
set_option linter.unusedVariables false
set_option linter.unusedSimpArgs false
theorem info5 : (Tryd.prog.info? 5).map (fun i => (i.zero, i.size, i.bytes)) = some (some (.int .u8 0), 1, 1) := by kernel_rfl
def toL (s : ByteArray) : List UInt8 := s.data.toList
theorem toL_len (s : ByteArray) : (toL s).length = s.size := by unfold toL; rw [Array.length_toList]; rfl
theorem toL_inj {a b : ByteArray} (h : toL a = toL b) : a = b := by
  cases a; cases b; simp [toL] at h; simp [h]
def ofL (l : List UInt8) : ByteArray := ⟨l.toArray⟩
theorem toL_ofL (l : List UInt8) : toL (ofL l) = l := by simp [toL, ofL]
theorem ofL_toL (s : ByteArray) : ofL (toL s) = s := toL_inj (toL_ofL _)
theorem ofL_size (l : List UInt8) : (ofL l).size = l.length := by simp [ofL, ByteArray.size]
theorem toL_extract (s : ByteArray) (i j : Nat) (h : j ≤ s.size) : toL (s.extract i j) = ((toL s).take j).drop i := by
  unfold toL; simp [ByteArray.data_extract, Array.toList_extract, List.extract_eq_take_drop, List.drop_take]
theorem toL_nil {s : ByteArray} : toL s = [] ↔ s.size = 0 := by rw [← toL_len]; exact List.length_eq_zero_iff.symm
/-- bytes' cells -/
def bc (l : List UInt8) : List Value := l.map fun b => Value.int .u8 b.toNat
theorem bc_len (l : List UInt8) : (bc l).length = l.length := by simp [bc]
theorem bc_append (a b : List UInt8) : bc (a ++ b) = bc a ++ bc b := by simp [bc]
theorem bc_str (s : ByteArray) : Lib.strCells s = bc (toL s) := rfl
theorem bc_ofL (l : List UInt8) : Lib.strCells (ofL l) = bc l := by rw [bc_str, toL_ofL]
/-- a buffer of the call's own from block B on, that holds these bytes; below B the world is as W0 -/
def Buf (B : Nat) (v : Value) (l : List UInt8) (W0 w : World) : Prop := Lib.OwnBuf B 5 v l.length (bc l) W0 w
theorem Buf.nil (B : Nat) (W : World) (h : B ≤ W.heap.size) : Buf B (.slice none 0 0) [] W W := ⟨W.ownsRowF_nil B 5 1, Below.refl _ _, h⟩
theorem Buf.form {B : Nat} {v : Value} {l : List UInt8} {W0 w : World} (h : Buf B v l W0 w) : (v = .slice none 0 0 ∧ l = []) ∨ ∃ g c, v = .slice (some ⟨g, 0, none⟩) l.length c ∧ B ≤ g ∧ ∀ i, i < l.length → w.cell? ⟨g, i, none⟩ = some (.int .u8 (l.getD i 0).toNat) := by
  rcases h.1.2 with ⟨h1, h2⟩ | ⟨g, c, cur, fz, h1, h2, h3, h4, h5, h6, h7, h8⟩
  · exact .inl ⟨h1, by simpa using h2⟩
  · refine .inr ⟨g, c, h1, h2, fun i hi => ?_⟩
    have e := h.1.cells (g := g) (by rw [h1]; rfl) i (.int .u8 (l.getD i 0).toNat) (by simp [bc, hi])
    have ea : (⟨g, 0, none⟩ : Addr).add i = ⟨g, i, none⟩ := by
      unfold Addr.add
      split
      · rename_i h; subst h; rfl
      · simp
    rwa [ea] at e
theorem Buf.drew {B : Nat} {v : Value} {l : List UInt8} {W0 w : World} (h : Buf B v l W0 w) : Buf B v l W0 w.drew := ⟨h.1, h.2.1.drew, h.2.2⟩
theorem Buf.drewN {B : Nat} {v : Value} {l : List UInt8} {W0 w : World} (h : Buf B v l W0 w) (n : Nat) : Buf B v l W0 (w.drewN n) := Lib.OwnBuf.drewN h n
theorem Buf.alloc {B : Nat} {v : Value} {l : List UInt8} {W0 w : World} (h : Buf B v l W0 w) (o : Obj) : Buf B v l W0 (w.alloc o) := Lib.OwnBuf.alloc h o
theorem Buf.below {B : Nat} {v : Value} {l : List UInt8} {W0 w : World} (h : Buf B v l W0 w) : Below B W0 w := h.2.1
/-- nothing below B has turned, nor any block that was there -/
theorem Buf.later {B : Nat} {v : Value} {l : List UInt8} {W0 w w' : World} (h : Buf B v l W0 w) (hb : Below w.heap.size w w') : Buf B v l W0 w' := by
  refine ⟨?_, h.2.1.trans (hb.mono h.2.2), Nat.le_trans h.2.2 hb.size⟩
  refine ⟨h.1.1, ?_⟩
  rcases h.1.2 with h1 | ⟨g, c, cur, fz, h1, h2, h3, h4⟩
  · exact .inl h1
  · exact .inr ⟨g, c, cur, fz, h1, h2, (hb.block g (lt_of_block h3)).trans h3, h4⟩
/-- one byte more -/
theorem app_one {ops : Array Oper} {rest : List Oper} {o : Oper} {a : Act} {Q : Exit → Act → World → Prop} (hgd : o.guard = none) (s x : Operand)
    (ho : o.op = .call { callee := .builtin .append, args := #[s, x], argTypes := #[36, 36] })
    (B : Nat) (v : Value) (l : List UInt8) (hs : a.eval s = v) (W0 w0 : World) (c : Int) (b : UInt8) (hc : c = b.toNat) (hb : Buf B v l W0 w0)
    (hx : a.eval x = .slice (some ⟨w0.heap.size, 0, none⟩) 1 1) (hlen : l.length + 1 ≤ 140737488355328)
    (h : ∀ v' w', Buf B v' (l ++ [b]) W0 w' → wpList Tryd.prog ops Q rest (a.put o.dst v') w') : wpList Tryd.prog ops Q (o :: rest) a (w0.alloc (.cells #[.int .u8 c] 5)) := by
  subst hc
  obtain ⟨i0, hi, hz0, hz1, hz2⟩ := info_parts info5
  refine Lib.wpList_append_byte hgd s x 36 ho B 5 i0 Tryd.underlying36 hi hz0 hz1 hz2 v l.length (bc l) hs W0 w0 _ hb hx hlen fun v' w' h' => h v' w' ?_
  unfold Buf
  rw [bc_append, List.length_append]
  exact h'
/-- a text more -/
theorem app_str {ops : Array Oper} {rest : List Oper} {o : Oper} {a : Act} {Q : Exit → Act → World → Prop} {w : World} (hgd : o.guard = none) (s x : Operand)
    (ho : o.op = .call { callee := .builtin .append, args := #[s, x], argTypes := #[36, 9] })
    (B : Nat) (v : Value) (l : List UInt8) (hs : a.eval s = v) (W0 : World) (y : ByteArray) (hb : Buf B v l W0 w)
    (hx : a.eval x = .string y) (hlen : l.length + y.size ≤ 140737488355328)
    (h : ∀ v' w', Buf B v' (l ++ toL y) W0 w' → wpList Tryd.prog ops Q rest (a.put o.dst v') w') : wpList Tryd.prog ops Q (o :: rest) a w := by
  obtain ⟨i0, hi, hz0, hz1, hz2⟩ := info_parts info5
  refine Lib.wpList_append_text hgd s x 36 9 ho B 5 i0 Tryd.underlying36 Tryd.underlying9 hi hz0 hz1 hz2 v l.length (bc l) hs W0 hb y hx hlen fun v' w' h' => h v' w' ?_
  unfold Buf
  rw [bc_append, List.length_append, toL_len]
  exact h'
theorem conv_buf {B : Nat} {v : Value} {l : List UInt8} {W0 w : World} (h : Buf B v l W0 w) : (convert 36 9 v).run Tryd.prog w = .ok (.string (ofL l)) w := by
  rcases h.form with ⟨rfl, rfl⟩ | ⟨g, c, rfl, hg, hc⟩
  · exact run_convert_bytes_nil w 36 5 Tryd.underlying36 Tryd.underlying5 0 0 9 Tryd.underlying9
  · have e := run_convert_bytes_arg w 36 5 Tryd.underlying36 Tryd.underlying5 g 0 l.length c (l.map fun b => (b.toNat : Int)) (by simp) (fun i hi => by
      rw [Nat.zero_add, hc i hi]
      simp [List.getD_eq_getElem?_getD, hi]) 9 Tryd.underlying9
    rw [e]
    unfold strOfNums ofL
    congr 2
    congr 1
    rw [List.map_map]
    conv => rhs; rw [← List.map_id l]
    congr 1
    refine List.map_congr_left fun b _ => ?_
    show UInt8.ofNat ((b.toNat : Int).toNat) = b
    rw [Int.toNat_natCast, UInt8.ofNat_toNat]
end Go.Proofs.YtoggibooinhomaaDoor.Z
