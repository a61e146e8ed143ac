/-
  THE WALK of the code's closure that takes a byte.
-/
import Derived.Test.YtingpadjciohjaaCk
import Derived.RegionTactic
import Derived.BigRegion
namespace Go.Proofs.Ytingpadjciohjaa
open Go.RowKit
set_option linter.unusedVariables false
set_option linter.unusedSimpArgs false
/-- but for one block the world is as it was -/
structure Only (g : Nat) (w w' : World) : Prop where
  os : w'.os = w.os
  tape : w'.tape = w.tape
  output : w'.output = w.output
  size : w'.heap.size = w.heap.size
  block : ∀ k, k ≠ g → w'.heap[k]? = w.heap[k]?
theorem Only.refl (g : Nat) (w : World) : Only g w w := ⟨rfl, rfl, rfl, rfl, fun _ _ => rfl⟩
theorem Only.trans {g : Nat} {a b c : World} (h : Only g a b) (k : Only g b c) : Only g a c :=
  ⟨k.os.trans h.os, k.tape.trans h.tape, k.output.trans h.output, k.size.trans h.size, fun i hi => (k.block i hi).trans (h.block i hi)⟩
theorem Only.drew {g : Nat} {a w : World} (h : Only g a w) : Only g a w.drew := ⟨h.os, h.tape, h.output, h.size, h.block⟩
theorem Only.set {g : Nat} {a w : World} (h : Only g a w) (i : Nat) (u : Value) : Only g a (w.setCell ⟨g, i, none⟩ u) :=
  h.trans ⟨rfl, rfl, rfl, by simp [World.setCell], fun k hk => Below.heap_setCell _ _ _ _ hk⟩
theorem Only.below {g : Nat} {a w : World} (h : Only g a w) {B : Nat} (hB : B ≤ g) : Below B a w := ⟨h.os, h.tape, h.output, by rw [h.size]; exact Nat.le_refl _, fun k hk => h.block k (by omega)⟩
theorem Only.cell {g : Nat} {a w : World} (h : Only g a w) (p : Addr) (hp : p.block ≠ g) : w.cell? p = a.cell? p := by
  unfold World.cell?; rw [h.block _ hp]
/-- what the closure has captured: the sum, the data, the cuts, the power -/
structure Cap (W : World) (gs gd gc gp : Nat) (a : Nat) (D : ByteArray) (w lo hi m P : Nat) : Prop where
  s : Nm.Own W gs 22 #[.int .u32 (a : Nat)]
  d : W.cell? ⟨gd, 0, none⟩ = some (.string D)
  c : At W gc w lo hi m
  p : W.cell? ⟨gp, 0, none⟩ = some (.int .u32 (P : Nat))
  n1 : gd ≠ gs
  n2 : gc ≠ gs
  n3 : gp ≠ gs
theorem Cap.drew {W : World} {gs gd gc gp a : Nat} {D : ByteArray} {w lo hi m P : Nat} (h : Cap W gs gd gc gp a D w lo hi m P) : Cap W.drew gs gd gc gp a D w lo hi m P := ⟨h.s, h.d, ⟨h.c.c0, h.c.c1, h.c.c2, h.c.c3⟩, h.p, h.n1, h.n2, h.n3⟩
theorem Cap.set {W : World} {gs gd gc gp a : Nat} {D : ByteArray} {w lo hi m P : Nat} (h : Cap W gs gd gc gp a D w lo hi m P) (b : Nat) : Cap (W.setCell ⟨gs, 0, none⟩ (.int .u32 (b : Nat))) gs gd gc gp b D w lo hi m P := by
  have o := (Only.refl gs W).set 0 (.int .u32 (b : Nat))
  exact ⟨h.s.set 0 _, (o.cell _ h.n1).trans h.d, ⟨(o.cell _ h.n2).trans h.c.c0, (o.cell _ h.n2).trans h.c.c1, (o.cell _ h.n2).trans h.c.c2, (o.cell _ h.n2).trans h.c.c3⟩, (o.cell _ h.n3).trans h.p, h.n1, h.n2, h.n3⟩
def nx1 (a b : Nat) : Nat := (a * 69069 + b + 1) % 4294967296
def nx2 (a P b : Nat) : Nat := (((a : Int) - (P : Int) * ((b : Int) + 1)) % 4294967296).toNat
set_option maxRecDepth 100000 in
set_option maxHeartbeats 1000000 in
theorem take_any (gs gd gc gp a : Nat) (D : ByteArray) (w lo hi m P i : Nat) (W : World) (h : Cap W gs gd gc gp a D w lo hi m P) (hi' : i < D.size) (hD : D.size ≤ 9223372036854775807) (ha : a < 4294967296) (hP : P < 4294967296) (h1 : 1 ≤ w) :
    Calls Try.prog 22 #[.int .i64 i, .pointer (some ⟨gs, 0, none⟩), .pointer (some ⟨gd, 0, none⟩), .pointer (some ⟨gc, 0, none⟩), .pointer (some ⟨gp, 0, none⟩)] W fun e W' =>
      e = .returned (.tuple #[]) ∧ Cap W' gs gd gc gp (if w ≤ i then nx2 (nx1 a D[i].toNat) P (D.data.toList.getD (i - w) 0).toNat else nx1 a D[i].toNat) D w lo hi m P ∧ Only gs W W' := by
  obtain ⟨b, hb⟩ : ∃ b, b = nx1 a D[i].toNat := ⟨_, rfl⟩
  have e1 : (((a : Int) * 69069 + (D[i].toNat : Int) + 1) % 4294967296) = (b : Int) := by rw [hb]; unfold nx1; omega
  have lb : b < 4294967296 := by rw [hb]; exact Nat.mod_lt _ (by decide)
  rw [← hb]
  clear hb
  have g1 := (h.set b).drew
  have o1 := ((Only.refl gs W).set 0 (.int .u32 (b : Nat))).drew
  have s0 := h.s.cell 0
  have f0 := h.s.frozen 0
  have d0 := h.d
  obtain ⟨c0, c1, c2, c3⟩ := id h.c
  have p0 := h.p
  have n1 := h.n1
  have n2 := h.n2
  have n3 := h.n3
  have l0 : (0 : Int) ≤ (i : Int) := by omega
  have l1 : (i : Int) < (D.size : Int) := by omega
  simp at s0
  by_cases hw : w ≤ i
  · have lw : (w : Int) ≤ (i : Int) := by omega
    rw [if_pos hw]
    obtain ⟨q, hq⟩ : ∃ q, q = i - w := ⟨_, rfl⟩
    rw [← hq]
    have q0 : q < D.size := by omega
    have iu : (i : Int) - (w : Int) = (q : Int) := by omega
    have iw : IntKind.i64.wrap (q : Int) = (q : Int) := IntWalk.i64_in _ (by omega)
    have q1 : (0 : Int) ≤ (q : Int) := by omega
    have q2 : (q : Int) < (D.size : Int) := by omega
    have ed : (D.data.toList.getD q 0) = D[q] := by simp [List.getD_eq_getElem?_getD, q0]; rfl
    rw [ed]
    have E2 : Hid (((b : Int) - (P : Int) * (((D[q].toNat : Int) + 1) % 4294967296)) % 4294967296 = ((nx2 b P D[q].toNat : Nat) : Int)) := Lib.hid (by
      have hd := D[q].toNat_lt
      unfold nx2
      have e : ((D[q].toNat : Int) + 1) % 4294967296 = (D[q].toNat : Int) + 1 := by omega
      rw [e]
      have := Int.emod_nonneg ((b : Int) - (P : Int) * ((D[q].toNat : Int) + 1)) (show (4294967296 : Int) ≠ 0 by decide)
      exact (Int.toNat_of_nonneg this).symm)
    clear hq ed
    go_enter Try.func22, Try.ntmps22
    go_wp2_with fail
    go_region
    generalize (W.setCell ⟨gs, 0, none⟩ (.int .u32 (b : Nat))).drew = V at *
    clear s0 f0 d0 c0 c1 c2 c3 p0 e1
    obtain ⟨c0, c1, c2, c3⟩ := id g1.c
    have g2 := (g1.set (nx2 b P D[q].toNat)).drew
    have o2 := (o1.set 0 (.int .u32 (nx2 b P D[q].toNat : Nat))).drew
    have s0 := g1.s.cell 0
    have f0 := g1.s.frozen 0
    have d0 := g1.d
    have p0 := g1.p
    simp at s0
    go_wp2_with fail
    go_region
    rw [E2.out]
    go_wp2_with fail
    go_end0
    exact ⟨rfl, g2, o2⟩
  · have lw : (i : Int) < (w : Int) := by omega
    rw [if_neg hw]
    go_enter Try.func22, Try.ntmps22
    go_wp2_with fail
    go_region
    generalize (W.setCell ⟨gs, 0, none⟩ (.int .u32 (b : Nat))).drew = V at *
    clear s0 f0 d0 c0 c1 c2 c3 p0 e1
    obtain ⟨c0, c1, c2, c3⟩ := id g1.c
    go_wp2_with fail
    go_end0
    exact ⟨rfl, g1, o1⟩
/-- the sum goes on with the window -/
theorem roll_next (D : ByteArray) (w i : Nat) (hi : i < D.size) (h1 : 1 ≤ w) :
    (if w ≤ i then nx2 (nx1 (Ro.S (Ro.win D.data.toList w i)) D[i].toNat) (Ro.pw w) (D.data.toList.getD (i - w) 0).toNat else nx1 (Ro.S (Ro.win D.data.toList w i)) D[i].toNat) = Ro.S (Ro.win D.data.toList w (i + 1)) := by
  have hl : i < D.data.toList.length := by simpa using hi
  have hD : D[i] = D.data.toList[i] := rfl
  rw [hD]
  clear hD
  generalize D.data.toList = L at *
  have e1 : nx1 (Ro.S (Ro.win L w i)) L[i].toNat = Ro.S (Ro.win L w i ++ [L[i]]) := by rw [Ro.S_snoc]; rfl
  rw [e1]
  by_cases hw : w ≤ i
  · rw [if_pos hw, Ro.win_roll L w i hl hw (by omega)]
    have hg : L.getD (i - w) 0 = L[i - w] := by simp [List.getD_eq_getElem?_getD, show i - w < L.length from by omega]
    rw [hg]
    have := Ro.S_tail L[i - w] (Ro.win L w (i + 1))
    rw [Ro.win_len L w (i + 1) (by omega) (by omega)] at this
    unfold nx2
    rw [this]
    exact Int.toNat_natCast _
  · rw [if_neg hw, Ro.win_step L w i hl (by omega)]
end Go.Proofs.Ytingpadjciohjaa
