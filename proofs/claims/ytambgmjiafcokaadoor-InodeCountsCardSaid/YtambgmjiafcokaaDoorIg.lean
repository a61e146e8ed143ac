/-
  THE WALK of the fields of an inode (inode.fields) and of the function that hands them on.
-/
import Derived.Test.YtambgmjiafcokaaDoorIf
import Derived.Deep.CutRange
namespace Go.Proofs.YtambgmjiafcokaaDoor
set_option linter.unusedVariables false
set_option maxRecDepth 100000
set_option linter.unusedSimpArgs false
open Go.RowKit Go.Shelf
attribute [local go_sem] Oper.semAt_some
namespace Dw
open _root_.Go.Proofs.YtambgmjiafcokaaDoor.Nm hiding Own
/-- the fields lie in a row, the row in a box -/
structure Fl (n₀ : Nat) (W : World) (Bn r c g : Nat) : Prop where
  b : W.cell? ⟨Bn, 0, none⟩ = some (.slice (some ⟨r, 0, none⟩) 12 c)
  lt : Bn < n₀
  lr : r < n₀
  p : ∀ q, q < 12 → W.cell? ⟨r, q * 2, none⟩ = some (.pointer (some ⟨g, Ni.cl q, none⟩)) ∧ W.cell? ⟨r, q * 2 + 1, none⟩ = some (.int .i64 (Ni.sz q : Nat))
theorem Fl.low {n₀ : Nat} {W W' : World} {Bn r c g : Nat} (h : Fl n₀ W Bn r c g) (k : Below n₀ W W') : Fl n₀ W' Bn r c g :=
  ⟨(k.cell (p := ⟨Bn, 0, none⟩) h.lt).trans h.b, h.lt, h.lr, fun q hq => ⟨(k.cell (p := ⟨r, q * 2, none⟩) h.lr).trans (h.p q hq).1, (k.cell (p := ⟨r, q * 2 + 1, none⟩) h.lr).trans (h.p q hq).2⟩⟩
theorem ffs_get (g : Nat) : ∀ (m k q : Nat), q < m → (ffs g k m)[q * 2]? = some (.pointer (some ⟨g, Ni.cl (k + q), none⟩)) ∧ (ffs g k m)[q * 2 + 1]? = some (.int .i64 (Ni.sz (k + q) : Nat))
  | 0, _, q, h => by omega
  | m + 1, k, 0, h => ⟨rfl, rfl⟩
  | m + 1, k, q + 1, h => by
    have ih := ffs_get g m (k + 1) q (by omega)
    have e : ffs g k (m + 1) = .pointer (some ⟨g, Ni.cl k, none⟩) :: .int .i64 (Ni.sz k : Nat) :: ffs g (k + 1) m := rfl
    rw [e, show (q + 1) * 2 = q * 2 + 1 + 1 from by omega, show k + (q + 1) = k + 1 + q from by omega]
    simpa only [List.getElem?_cons_succ] using ih
theorem RF.cells {w : World} {B r n c g : Nat} (h : RF w B (some ⟨r, 0, none⟩) n c g) : ∀ q, q < n → w.cell? ⟨r, q * 2, none⟩ = some (.pointer (some ⟨g, Ni.cl q, none⟩)) ∧ w.cell? ⟨r, q * 2 + 1, none⟩ = some (.int .i64 (Ni.sz q : Nat)) := fun q hq => by
  obtain ⟨h1, h2⟩ := ffs_get g n 0 q hq
  rw [Nat.zero_add] at h1 h2
  have hc := World.ownsRow.cells h (g := r) rfl
  have k1 := hc _ _ h1
  have k2 := hc _ _ h2
  rw [addr_add, Nat.zero_add] at k1 k2
  exact ⟨k1, k2⟩
theorem RF.lt {w : World} {B r n c g : Nat} (h : RF w B (some ⟨r, 0, none⟩) n c g) : B ≤ r ∧ r < w.heap.size := by
  rcases h.2 with ⟨h1, _⟩ | ⟨g', c', cur, h1, h2, h3, _⟩
  · cases h1
  · cases h1
    exact ⟨h2, lt_of_block h3⟩
theorem RF.new {w : World} {B r g : Nat} (h : Nm.Own w r 54 (ffs g 0 4).toArray) (hB : B ≤ r) : RF w B (some ⟨r, 0, none⟩) 4 4 g :=
  ⟨ffs_length _ _ _, .inr ⟨r, 4, (ffs g 0 4).toArray, rfl, hB, h, Nat.le_refl _, by unfold maxLen; omega, rfl, rfl⟩⟩
set_option maxHeartbeats 2000000 in
theorem fields_any (g : Nat) (w : World) (N : Nat) (hN : w.heap.size = N) : Calls Tryd.prog 24 #[.pointer (some ⟨g, 0, none⟩)] w fun e w' =>
    (∃ Bn r c, e = .returned (.func (.func 39) #[] #[.pointer (some ⟨Bn, 0, none⟩)]) ∧ Fl w'.heap.size w' Bn r c g ∧ N ≤ Bn ∧ N ≤ r) ∧ Below N w w' := by
  go_enter Tryd.func24, Tryd.ntmps24
  go_upto_region 1 with fail
  go_cut [3] from 4 (fun s3 wc => ∃ Bn r, s3 = .pointer (some ⟨Bn, 0, none⟩) ∧ Nm.Own wc Bn 70 #[.slice (some ⟨r, 0, none⟩) 4 4] ∧ RF wc N (some ⟨r, 0, none⟩) 4 4 g ∧ N ≤ Bn ∧ Bn ≠ r ∧ Below N w wc)
  case first =>
    go_region
    · go_wp2_with fail
      go_meet
      have o1 := (Nm.Own.new w 54 (ffs g 0 4).toArray).alloc (Obj.cells #[.slice (some ⟨N, 0, none⟩) 4 4] 70)
      have o2 := Nm.Own.new (w.alloc (Obj.cells (ffs g 0 4).toArray 54)) 70 #[.slice (some ⟨N, 0, none⟩) 4 4]
      rw [World.size_alloc, hN] at o2
      rw [hN] at o1
      case rel => exact ⟨N + 1, N, rfl, o2, RF.new o1 (Nat.le_refl _), by omega, by omega, hN ▸ (grow2 w _ _).drew⟩
    · go_wp2_with fail
      go_meet
      have o1 := (Nm.Own.new w 70 #[.slice (some ⟨N + 1, 0, none⟩) 4 4]).alloc (Obj.cells (ffs g 0 4).toArray 54)
      have o2 := Nm.Own.new (w.alloc (Obj.cells #[.slice (some ⟨N + 1, 0, none⟩) 4 4] 70)) 54 (ffs g 0 4).toArray
      rw [World.size_alloc, hN] at o2
      rw [hN] at o1
      case rel => exact ⟨N, N + 1, rfl, o1, RF.new o2 (by omega), by omega, by omega, hN ▸ (grow2 w _ _).drew⟩
  case rest =>
    obtain ⟨Bn, r, rfl, ob, hr, hB, hne, hb⟩ := hcut
    go_wp2_with fail
    go_loopw [22] (fun i wr => ∃ (k r c : Nat), k ≤ 6 ∧ i = .int .i64 k ∧ Nm.Own wr Bn 70 #[.slice (some ⟨r, 0, none⟩) (4 + k) c] ∧ RF wr N (some ⟨r, 0, none⟩) (4 + k) c g ∧ Bn ≠ r ∧ Below N w wr) (fun i _ => 6 - (intOf i).toNat)
    case atStart => exact ⟨0, r, 4, by omega, rfl, ob, hr, hne, hb⟩
    case round =>
      clear ob hr hne hb
      obtain ⟨k, r, c, hk, rfl, ob, hr, hne, hb⟩ := hrel
      by_cases hlt : k < 6
      · have b1 : (k : Int) < 6 := by omega
        have b0 : 0 ≤ (k : Int) := by omega
        have gw := grow wr.drew (Obj.cells #[.pointer (some ⟨g, 4 + k, none⟩), .int .i64 2] 54)
        have c0 := ob.cell 0
        have c0b := (ob.alloc (Obj.cells #[.pointer (some ⟨g, 4 + k, none⟩), .int .i64 2] 54)).cell 0
        have HR := Lib.hid (show RF (wr.drew.alloc (Obj.cells #[.pointer (some ⟨g, 4 + k, none⟩), .int .i64 2] 54)) N (some ⟨r, 0, none⟩) (4 + k) c g from World.ownsRow.alloc (show RF wr.drew N (some ⟨r, 0, none⟩) (4 + k) c g from hr) _)
        have HO := Lib.hid ((show Nm.Own wr.drew Bn 70 #[.slice (some ⟨r, 0, none⟩) (4 + k) c] from ob).alloc (Obj.cells #[.pointer (some ⟨g, 4 + k, none⟩), .int .i64 2] 54))
        have HM := Lib.hid (Nm.Own.new wr.drew 54 #[.pointer (some ⟨g, 4 + k, none⟩), .int .i64 2])
        have HB := Lib.hid ((show Below N w wr.drew from hb.drew).trans (gw.mono (hN ▸ hb.size)))
        have HZ := Lib.hid (show N ≤ (wr.alloc (Obj.cells #[.pointer (some ⟨g, 4 + k, none⟩), .int .i64 2] 54)).drew.heap.size from by rw [← hN]; exact HB.out.size)
        have HS := Lib.hid (show (wr.alloc (Obj.cells #[.pointer (some ⟨g, 4 + k, none⟩), .int .i64 2] 54)).drew.heap.size = wr.heap.size + 1 from by simp)
        have hBl := ob.lt
        have HF := Lib.hid (one_f (g := g) hlt)
        have hsz : wr.heap.size ≠ Bn := by have := ob.lt; omega
        clear gw ob hr hb
        have e1 : IntKind.i64.wrap ((k : Int) + 1) = (k : Int) + 1 := IntWalk.i64_in _ (by omega)
        go_wp2_with fail
        go_region_law (refine step_app_f rfl (.tmp 25) (.tmp 32) rfl N (some ⟨r, 0, none⟩) (4 + k) c g 1 (by simp [Act.eval, Act.put]) HR.out wr.heap.size 1 (by simp [Act.eval, Act.put]) (fun j u hj => (HM.out.cell j).trans (HF.out j u hj)) (by decide) (by omega) HZ.out _ rfl ?_; intro r2 c2 w3 hr3 hg3 hor hb3; have own3 : Nm.Own w3 Bn 70 _ := (hg3.block Bn HO.out.lt (fun e => by rw [ownb] at e; exact hne (Option.some.inj e))).trans HO.out; have f0 := own3.frozen 0; have c1 := own3.cell 0)
        all_goals
          go_wp2_with fail
          go_roundw
          case rel =>
            have hne3 : Bn ≠ r2 := by
              rcases hor with h | h
              · rw [ownb] at h; injection h with h; omega
              · have h' : r2 = wr.heap.size + 1 := h.trans HS.out
                omega
            have ho := own3.set 0 (.slice (some ⟨r2, 0, none⟩) (4 + k + 1) c2)
            refine ⟨k + 1, r2, c2, by omega, by go_num, by simpa [Nat.add_assoc] using ho, ownsRow_setCell_other hr3 (by rw [ownb]; simp; omega) _, hne3, ?_⟩
            exact (HB.out.trans hb3).setCell (p := ⟨Bn, 0, none⟩) (by omega) _
          case measure => simp [intOf]; omega
      · obtain rfl : k = 6 := by omega
        have gw := grow wr.drew (Obj.cells #[.pointer (some ⟨g, 10, none⟩), .int .i64 2, .pointer (some ⟨g, 11, none⟩), .int .i64 2] 54)
        have c0 := ob.cell 0
        have c0b := (ob.alloc (Obj.cells #[.pointer (some ⟨g, 10, none⟩), .int .i64 2, .pointer (some ⟨g, 11, none⟩), .int .i64 2] 54)).cell 0
        have HR := Lib.hid (show RF (wr.drew.alloc (Obj.cells #[.pointer (some ⟨g, 10, none⟩), .int .i64 2, .pointer (some ⟨g, 11, none⟩), .int .i64 2] 54)) N (some ⟨r, 0, none⟩) 10 c g from World.ownsRow.alloc (show RF wr.drew N (some ⟨r, 0, none⟩) (4 + 6) c g from hr) _)
        have HO := Lib.hid ((show Nm.Own wr.drew Bn 70 #[.slice (some ⟨r, 0, none⟩) (4 + 6) c] from ob).alloc (Obj.cells #[.pointer (some ⟨g, 10, none⟩), .int .i64 2, .pointer (some ⟨g, 11, none⟩), .int .i64 2] 54))
        have HM := Lib.hid (Nm.Own.new wr.drew 54 #[.pointer (some ⟨g, 10, none⟩), .int .i64 2, .pointer (some ⟨g, 11, none⟩), .int .i64 2])
        have HB := Lib.hid ((show Below N w wr.drew from hb.drew).trans (gw.mono (hN ▸ hb.size)))
        have HZ := Lib.hid (show N ≤ (wr.alloc (Obj.cells #[.pointer (some ⟨g, 10, none⟩), .int .i64 2, .pointer (some ⟨g, 11, none⟩), .int .i64 2] 54)).drew.heap.size from by rw [← hN]; exact HB.out.size)
        have HS := Lib.hid (show (wr.alloc (Obj.cells #[.pointer (some ⟨g, 10, none⟩), .int .i64 2, .pointer (some ⟨g, 11, none⟩), .int .i64 2] 54)).drew.heap.size = wr.heap.size + 1 from by simp)
        have hBl := ob.lt
        have HF := Lib.hid (two_f (g := g))
        have hsz : wr.heap.size ≠ Bn := by have := ob.lt; omega
        clear gw ob hr hb
        go_wp2_with fail
        go_region_law (refine step_app_f rfl (.tmp 35) (.tmp 44) rfl N (some ⟨r, 0, none⟩) 10 c g 2 (by simp [Act.eval, Act.put]) HR.out wr.heap.size 2 (by simp [Act.eval, Act.put]) (fun j u hj => (HM.out.cell j).trans (HF.out j u hj)) (by decide) (by omega) HZ.out _ rfl ?_; intro r2 c2 w3 hr3 hg3 hor hb3; have own3 : Nm.Own w3 Bn 70 _ := (hg3.block Bn HO.out.lt (fun e => by rw [ownb] at e; exact hne (Option.some.inj e))).trans HO.out; have f0 := own3.frozen 0; have c1 := own3.cell 0)
        all_goals
          go_wp2_with fail
          have hne3 : Bn ≠ r2 := by
            rcases hor with h | h
            · rw [ownb] at h; injection h with h; omega
            · have h' : r2 = wr.heap.size + 1 := h.trans HS.out
              omega
          have ho := own3.set 0 (.slice (some ⟨r2, 0, none⟩) 12 c2)
          have hr4 : RF (w3.setCell ⟨Bn, 0, none⟩ (.slice (some ⟨r2, 0, none⟩) 12 c2)) N (some ⟨r2, 0, none⟩) 12 c2 g := ownsRow_setCell_other hr3 (by rw [ownb]; simp; omega) _
          have hb4 : Below N w (w3.setCell ⟨Bn, 0, none⟩ (.slice (some ⟨r2, 0, none⟩) 12 c2)) := (HB.out.trans hb3).setCell (p := ⟨Bn, 0, none⟩) (by omega) _
          go_ret
          exact ⟨⟨Bn, r2, c2, rfl, ⟨ho.cell 0, ho.lt, hr4.lt.2, hr4.cells⟩, hB, hr4.lt.1⟩, hb4⟩
end Dw
end Go.Proofs.YtambgmjiafcokaaDoor
