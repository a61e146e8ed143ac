/-
  THE WALK of the document's words as bytes.
-/
import Derived.Test.YtkbelpkmlmfedaaEt
namespace Go.Proofs.Ytkbelpkmlmfedaa
set_option linter.unusedVariables false
set_option maxRecDepth 100000
set_option linter.unusedSimpArgs false
open Go.RowKit
namespace Xe
open _root_.Go.Proofs.Ytkbelpkmlmfedaa.Nm
/-- the program lies in the call's first block -/
structure Kx (w wr : World) (x : Xv) : Prop where
  k : At wr w.heap.size x
  b : Below w.heap.size w wr
theorem at_lt {w : World} {g : Nat} {x : Xv} (o : At w g x) : g < w.heap.size := World.block_lt_of_cell? _ _ o.c0
theorem Kx.below {w wr w1 : World} {x : Xv} (o : Kx w wr x) (hx : Below wr.heap.size wr w1) : Kx w w1 x := ⟨o.k.below (at_lt o.k) hx, o.b.trans (hx.mono o.b.size)⟩
theorem Kx.drew {w wr : World} {x : Xv} (o : Kx w wr x) : Kx w wr.drew x := ⟨⟨o.k.c0, o.k.c1, o.k.c2, o.k.c3⟩, o.b.drew⟩
theorem Kx.drewN {w wr : World} {x : Xv} (o : Kx w wr x) (n : Nat) : Kx w (wr.drewN n) x := ⟨⟨o.k.c0, o.k.c1, o.k.c2, o.k.c3⟩, below_drewN o.b n⟩
theorem Kx.new (w : World) (x : Xv) : Kx w (w.alloc (Obj.cells x.cs 25)) x := ⟨at_new _ _ _, grow _ _⟩
set_option maxHeartbeats 1000000 in
theorem rtext_any (x : Xv) (l : List Nat) (w : World) (hW : Ws w x.a x.n l) (hw : Em.Wd l) (hn : x.n ≤ 100000) :
    Calls Try.prog 46 #[.agg x.cs] w fun e w' => e = .returned (.string ⟨(Em.txt l).toArray⟩) ∧ Below w.heap.size w w' := by
  have hK := Kx.new w x
  obtain ⟨V, hV⟩ : ∃ V, V = w.alloc (Obj.cells x.cs 25) := ⟨_, rfl⟩
  have hK2 := hK
  rw [← hV] at hK2
  obtain ⟨k0, k1, k2, k3⟩ := hK.k
  obtain ⟨a, n, c, d, r, e⟩ := x
  dsimp only at *
  have HL := Lib.hid hW.1
  have HW := Lib.hid hw
  clear hw
  go_enter Try.func46, Try.ntmps46
  go_wp2_with fail
  go_loopw [3, 8] (fun o i wr => ∃ k : Nat, k ≤ n ∧ i = .int .i64 k ∧ o = .string ⟨(Em.txt (l.take k)).toArray⟩ ∧ Kx w wr ⟨a, n, c, d, r, e⟩) (fun _ i _ => n - (intOf i).toNat)
  case atStart => exact ⟨0, Nat.zero_le _, rfl, rfl, hK⟩
  case round =>
    obtain ⟨k, hk, rfl, rfl, hx⟩ := hrel
    obtain ⟨k0, k1, k2, k3⟩ := hx.k
    dsimp only at k0 k1 k2 k3
    by_cases hlt : k < n
    · obtain ⟨b, off, rfl, hc⟩ := hW.2 (by omega)
      have c1 := (hx.b.cell (World.block_lt_of_cell? _ _ (hc k hlt))).trans (hc k hlt)
      have hv := wn_lt HW.out (show k < l.length by have := HL.out; omega)
      have HT := Lib.hid (txt_next (show k < l.length by have := HL.out; omega))
      have hz : (Em.txt (l.take k)).length ≤ 400000 := by rw [Em.txt_len]; simp; omega
      have b1 : (k : Int) < (n : Int) := by omega
      generalize hv' : wn l k = v at *
      have hz2 : ¬ 9223372036854775807 < (Em.txt (l.take k)).length + (Nu.putB v 4).length := by rw [Nu.putB_length]; omega
      clear hc hv'
      go_wp2_with fail
      refine (rput_any v 4 4 _ (by omega) (by decide)).mono ?_
      rintro e w1 ⟨rfl, hx1⟩
      replace hx := hx.below hx1
      go_wp2_with fail
      go_roundw
      case rel =>
        refine ⟨k + 1, by omega, by go_num, ?_, hx⟩
        rw [HT.out, str_app]
      case measure => simp [intOf]; omega
    · obtain rfl : k = n := by omega
      have e : l.take k = l := List.take_of_length_le (Nat.le_of_eq HL.out)
      rw [e]
      go_wp2_with fail
      go_ret
      exact ⟨rfl, hx.b⟩
end Xe
end Go.Proofs.Ytkbelpkmlmfedaa
