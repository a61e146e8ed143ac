/-
  THE WALK of the document's example, which each law asks at its end.
-/
import Derived.Test.YtkbelpkmlmfedaaEy
namespace Go.Proofs.Ytkbelpkmlmfedaa
set_option linter.unusedVariables false
set_option maxRecDepth 100000
set_option linter.unusedSimpArgs false
open Go.RowKit
namespace Xe
open _root_.Go.Proofs.Ytkbelpkmlmfedaa.Nm
/-- the example's program, its word at a block -/
def x0 (g : Nat) : Xv := ⟨some ⟨g, 0, none⟩, 1, 1, ⟨#[]⟩, 0, 0⟩
theorem x0_ok (g : Nat) : (x0 g).Ok := ⟨show 1 ≤ 9223372036854775807 by decide, show 0 ≤ 9223372036854775807 by decide, show (-9223372036854775808 : Int) ≤ 0 by decide, show (0 : Int) ≤ 9223372036854775807 by decide, show 0 < 4294967296 by decide⟩
theorem x0_good (g : Nat) : ¬ badN (x0 g).n (x0 g).d.size (x0 g).r (x0 g).e := by
  show ¬ badN 1 0 0 0
  decide
theorem x0_size (g : Nat) : (fileX (x0 g) [7]).size = 18 := by
  rw [fileX, if_neg (x0_good g)]
  show (Em.file _).toArray.size = 18
  rw [List.size_toArray, Em.file_len]
  rfl
theorem x0_pages (g : Nat) : ∃ a b : Pg, layL (x0 g) [7] = [a, b] ∧ a.i = 0 ∧ b.i = 15 := by
  rw [layL, if_neg (x0_good g)]
  exact ⟨⟨0, (pad ⟨(Em.txt [7]).toArray⟩).extract 0 128, false⟩, ⟨15, zs 128, true⟩, by
    have h1 : pn (4 * (x0 g).n) = 1 := by show pn (4 * 1) = 1; decide
    have h2 : pn ((x0 g).d.size + (x0 g).r.toNat) = 0 := by show pn ((⟨#[]⟩ : ByteArray).size + (0 : Int).toNat) = 0; decide
    rw [h1, h2]
    simp [pp, List.range_succ], rfl, rfl⟩
theorem seven_wd : Em.Wd [7] := fun x h => by simp at h; omega
set_option maxHeartbeats 1000000 in
theorem awake_any (w : World) : Calls Try.prog 16 #[] w fun e w' => e = .returned (.bool true) ∧ Below w.heap.size w w' := by
  obtain ⟨g, hg⟩ : ∃ g, g = w.heap.size := ⟨_, rfl⟩
  have b0 : Below w.heap.size w ((w.alloc (Obj.cells #[.int .u32 7] 23)).alloc (Obj.cells (x0 g).cs 25)) := ((Below.refl _ w).alloc (Nat.le_refl _) _).alloc (by simp) _
  have a0 := at_new (w.alloc (Obj.cells #[.int .u32 7] 23)) (x0 g) 25
  have o0 := (Own.new w 23 #[.int .u32 7]).alloc (Obj.cells (x0 g).cs 25)
  rw [show (w.alloc (Obj.cells #[.int .u32 7] 23)).heap.size = g + 1 from by rw [hg]; simp] at a0
  rw [← hg] at o0
  have hW : Ws ((w.alloc (Obj.cells #[.int .u32 7] 23)).alloc (Obj.cells (x0 g).cs 25)) (x0 g).a (x0 g).n [7] := ⟨rfl, fun _ => ⟨g, 0, rfl, fun i hi => by
    have hi' : i < 1 := hi
    obtain rfl : i = 0 := by omega
    exact o0.cell 0⟩⟩
  have h17 := fun wr (h : Ws wr (x0 g).a (x0 g).n [7]) => bytes_any (x0 g) [7] (x0_ok g) wr h seven_wd
  have h24 := fun wr (h : Ws wr (x0 g).a (x0 g).n [7]) => lay_any (x0 g) [7] (x0_ok g) wr h seven_wd
  rw [chkN_ok (x0_good g)] at h17
  obtain ⟨p, q, e1, e2, e3⟩ := x0_pages g
  have z := x0_size g
  clear o0
  go_enter Try.func16, Try.ntmps16
  go_wp2_with fail
  rw [← hg]
  change Calls _ _ _ ((w.alloc (Obj.cells #[.int .u32 7] 23)).alloc (Obj.cells (x0 g).cs 25)) _
  generalize (w.alloc (Obj.cells #[.int .u32 7] 23)).alloc (Obj.cells (x0 g).cs 25) = V at *
  refine (h17 _ hW).mono ?_
  rintro e w1 ⟨rfl, hx1⟩
  replace a0 := a0.below (at_lt a0) hx1
  replace hW := hW.below hx1
  replace b0 := b0.trans (hx1.mono b0.size)
  obtain ⟨k0, k1, k2, k3⟩ := a0
  have j0 : w1.cell? ⟨w.heap.size + 1, 0, none⟩ = some (.slice (some ⟨w.heap.size, 0, none⟩) 1 1) := by rw [← hg]; exact k0
  have j1 : w1.cell? ⟨w.heap.size + 1, 1, none⟩ = some (.string ⟨#[]⟩) := by rw [← hg]; exact k1
  have j2 : w1.cell? ⟨w.heap.size + 1, 2, none⟩ = some (.int .i64 0) := by rw [← hg]; exact k2
  have j3 : w1.cell? ⟨w.heap.size + 1, 3, none⟩ = some (.int .u32 0) := by rw [← hg]; exact k3
  clear k0 k1 k2 k3 hx1 h17
  generalize fileX (x0 g) [7] = F at *
  go_wp2_with fail
  clear j0 j1 j2 j3
  rw [← hg]
  refine (h24 _ hW).mono ?_
  rintro e w2 ⟨⟨A, n, c, rfl, hr⟩, hx1⟩
  replace b0 := b0.trans (hx1.mono b0.size)
  rw [e1] at hr
  rw [chkN_ok (x0_good g)]
  obtain rfl : 2 = n := hr.1
  rcases hr.form with ⟨_, h0⟩ | ⟨h, rfl, _, _⟩
  · cases h0
  · have c1 := (hr.cells 0 p rfl).1
    have c2 := (hr.cells 1 q rfl).1
    rw [e2] at c1
    rw [e3] at c2
    have c1' : w2.cell? ⟨h, 0, none⟩ = some (.int .i64 0) := c1
    have c2' : w2.cell? ⟨h, 3, none⟩ = some (.int .i64 15) := c2
    clear c1 c2 e1 e2 e3 h24 hr hx1 hW
    go_wp2_with fail
    go_ret
    exact ⟨rfl, b0⟩
end Xe
end Go.Proofs.Ytkbelpkmlmfedaa
