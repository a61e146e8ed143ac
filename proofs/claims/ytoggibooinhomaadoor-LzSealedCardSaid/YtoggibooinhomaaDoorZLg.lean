/-
  THE WALK of the code's closure that searches: the best place ahead, if it is worth a copy.
-/
import Derived.Test.YtoggibooinhomaaDoorZLn
namespace Go.Proofs.YtoggibooinhomaaDoor.Z
open Go.RowKit Go.Maps
set_option linter.unusedVariables false
set_option linter.unusedSimpArgs false
theorem fd_lookup {w : World} {N m : Nat} {s : ByteArray} (h : Fd w N s m) (hs : s.size ≤ 1000000) (i : Nat) (hi : i + 4 ≤ s.size) : (Instr.lookup 50 (.map (some (N + 2))) (.string (s.extract i (i + 4))) false).run Tryd.prog w = .ok (.int .i64 (Lz.prv (toL s) (Lz.wd (toL s) i) m + 1)) w := by
  obtain ⟨D, hown, hD⟩ := h.hm
  have hkey : keyOf Tryd.prog 9 (.string (s.extract i (i + 4))) = some (.string (Lz.wd (toL s) i)) := by
    rw [← toL_wd s i hi]
    exact WideMaps.keyOf_string_mk Tryd.underlying9 (by unfold maxLen; rw [ByteArray.size_extract]; omega)
  obtain ⟨c, hrun, hat, -⟩ := hown.lookup_int law9 Tryd.underlying50 Tryd.underlying3 (zero3 _) hkey
  rw [hD.2] at hat
  have : c = Lz.prv (toL s) (Lz.wd (toL s) i) m + 1 := by
    have := hat
    simp at this
    omega
  rw [hrun, this]
def FndP (N : Nat) (s : ByteArray) (i : Nat) (w : World) (e : Ending) (w' : World) : Prop :=
  e = .returned (.tuple #[.int .i64 ((Lz.fnd (toL s) i).1 : Nat), .int .i64 ((Lz.fnd (toL s) i).2 : Nat)]) ∧ Chg (Mv N) w w' ∧ ∃ m', Fd w' N s m' ∧ m' ≤ i
theorem FndP.of {N : Nat} {s : ByteArray} {i : Nat} {w w' : World} {p : Nat × Nat} (hp : Lz.fnd (toL s) i = p) (hc : Chg (Mv N) w w') {m' : Nat} (hf : Fd w' N s m') (hm : m' ≤ i) : FndP N s i w (.returned (.tuple #[.int .i64 (p.1 : Nat), .int .i64 (p.2 : Nat)])) w' := by
  subst hp
  exact ⟨rfl, hc, m', hf, hm⟩
set_option maxRecDepth 100000 in
set_option maxHeartbeats 4000000 in
theorem found_any (N : Nat) (s : ByteArray) (m i : Nat) (w : World) (h : Fd w N s m) (hs : s.size ≤ 1000000) (ha : m ≤ i) (ha2 : i ≤ s.size) :
    Calls Tryd.prog 20 #[.int .i64 i, .pointer (some ⟨N + 7, 0, none⟩), .pointer (some ⟨N, 0, none⟩), .pointer (some ⟨N + 3, 0, none⟩), .pointer (some ⟨N + 5, 0, none⟩), .pointer (some ⟨N + 1, 0, none⟩)] w (FndP N s i w) := by
  have n0 := h.hn
  go_enter Tryd.func20, Tryd.ntmps20
  go_wp2_with fail
  refine (note_any N s m i _ h hs ha ha2).mono ?_
  rintro e w1 ⟨rfl, hC, m', hF, hm', hmi⟩
  clear n0 h
  have HC := Lib.hid hC
  have HF := Lib.hid hF
  have HM := Lib.hid hm'
  have s0 := hF.hs
  have l0 := hF.hl
  by_cases hi : i + 4 ≤ s.size
  · obtain rfl : m' = i := hmi hi
    have hlk := fun n => fd_lookup (hF.drewN n) hs m' hi
    have hbd := Lz.prv_bd (toL s) (Lz.wd (toL s) m') m'
    have HA := Lib.hid (Lz.at_start (toL s) m')
    have wr1 : IntKind.i64.wrap ((m' : Int) + 4) = (m' : Int) + 4 := IntWalk.i64_in _ (by omega)
    have i1 : (m' : Int) + 4 ≤ (s.size : Int) := by omega
    have i2 : (0 : Int) ≤ (m' : Int) := by omega
    have i3 : (m' : Int) ≤ (m' : Int) + 4 := by omega
    have i4 : ((m' : Int) + 4).toNat = m' + 4 := by omega
    generalize Lz.prv (toL s) (Lz.wd (toL s) m') m' = pv at *
    clear hC hF hm' hmi
    by_cases hb : 131 ≤ s.size - m'
    · go_wp2_with fail
      go_quiet (fail)
      go_wp2_with fail
      have HF2 : Hid (Fd (w1.drewN nq) N s m') := HF.out.drewN nq
      have HC2 : Hid (Chg (Mv N) w (w1.drewN nq)) := HC.out.drewN nq
      generalize w1.drewN nq = wo at HF2 HC2 ⊢
      clear hlk HF HC s0 l0 hbd
      go_loopw [9, 10, 12] (fun a b j wr => ∃ (jj : Int) (x y : Nat), j = .int .i64 jj ∧ a = .int .i64 x ∧ b = .int .i64 y ∧ Hid (Lz.At (toL s) m' jj (x, y)) ∧ ∃ q, wr = wo.drewN q) (fun _ _ j _ => (intOf j + 1).toNat)
      case atStart => exact ⟨pv, 0, 0, rfl, rfl, rfl, HA, 0, rfl⟩
      case round =>
        obtain ⟨jj, x, y, rfl, rfl, rfl, hA, nn, rfl⟩ := hrel
        have hlo := hA.out.lo
        have hhi := hA.out.hi
        have hbd := Lz.at_bd _ _ _ _ hA.out
        rw [toL_len] at hbd
        dsimp only at hbd
        obtain ⟨hb1, hb2, hb3⟩ := hbd
        by_cases hall : 0 ≤ jj ∧ (m' : Int) - jj ≤ 65535 ∧ (x : Int) < 131
        · obtain ⟨c1, c2, c3⟩ := hall
          obtain ⟨j, rfl⟩ := Int.eq_ofNat_of_zero_le c1
          have f0 := (HF2.out.drewN nn).hf
          have hsame := fun wx (hx : World.cell? wx ⟨N, 0, none⟩ = some (.string s)) => same_any N s m' j wx hx hs ha2 (by omega)
          have s0 := (HF2.out.drewN nn).hs
          have hst := Lz.at_next (toL s) m' j (x, y) (by rw [toL_len]; exact hi) hA.out (by omega)
          have hsm := (Lz.sm_le (toL s) m' j).1
          have hsm2 := hsame _ s0
          clear hsame hA
          generalize Lz.sm (toL s) m' j = z at *
          dsimp only at hst
          go_wp2_with fail
          refine hsm2.mono ?_
          rintro e w2 ⟨rfl, q2, rfl⟩
          rw [World.drewN_drewN]
          have p0 := (HF2.out.drewN (nn + q2)).hp
          obtain ⟨cs, hcs, hch⟩ := (HF2.out.drewN (nn + q2)).hr
          have r0 := hcs.cell j
          rw [hch.2.1 j (by omega)] at r0
          clear hch hcs
          by_cases hx : x < z
          · rw [if_pos hx] at hst
            have HS := Lib.hid hst
            clear hst
            have hy : ((m' - j : Nat) : Int) = (m' : Int) - (j : Int) := by omega
            go_wp2_with fail
            go_roundw
            case rel => exact ⟨_, z, m' - j, rfl, rfl, by rw [hy], HS, _, rfl⟩
            case measure =>
              have b2 := Lz.prv_bd (toL s) (Lz.wd (toL s) j) j
              simp [intOf]
              omega
          · rw [if_neg hx] at hst
            have HS := Lib.hid hst
            clear hst
            go_wp2_with fail
            go_roundw
            case rel => exact ⟨_, x, y, rfl, rfl, rfl, HS, _, rfl⟩
            case measure =>
              have b2 := Lz.prv_bd (toL s) (Lz.wd (toL s) j) j
              simp [intOf]
              omega
        · have HE : Hid (Lz.fnd (toL s) m' = (x, y)) := Lib.hid (Lz.at_end _ _ _ _ (by rw [toL_len]; exact hi) hA.out (by rw [toL_len]; dsimp only; omega)).symm
          have HF3 := Lib.hid (HF2.out.drewN nn)
          have HC3 := Lib.hid (HC2.out.drewN nn)
          clear hA
          by_cases c1 : 0 ≤ jj
          · by_cases c2 : (m' : Int) - jj ≤ 65535
            · have c3 : ¬ ((x : Int) < 131) := fun h => hall ⟨c1, c2, h⟩
              clear hall
              go_wp2_with fail
              go_ret2
              exact FndP.of HE.out HC3.out HF3.out HM.out
            · clear hall
              go_wp2_with fail
              go_ret2
              exact FndP.of HE.out HC3.out HF3.out HM.out
          · clear hall
            go_wp2_with fail
            go_ret2
            exact FndP.of HE.out HC3.out HF3.out HM.out
    · go_wp2_with fail
      go_quiet (fail)
      go_wp2_with fail
      have HF2 : Hid (Fd (w1.drewN nq) N s m') := HF.out.drewN nq
      have HC2 : Hid (Chg (Mv N) w (w1.drewN nq)) := HC.out.drewN nq
      generalize w1.drewN nq = wo at HF2 HC2 ⊢
      clear hlk HF HC s0 l0 hbd
      go_loopw [9, 10, 12] (fun a b j wr => ∃ (jj : Int) (x y : Nat), j = .int .i64 jj ∧ a = .int .i64 x ∧ b = .int .i64 y ∧ Hid (Lz.At (toL s) m' jj (x, y)) ∧ ∃ q, wr = wo.drewN q) (fun _ _ j _ => (intOf j + 1).toNat)
      case atStart => exact ⟨pv, 0, 0, rfl, rfl, rfl, HA, 0, rfl⟩
      case round =>
        obtain ⟨jj, x, y, rfl, rfl, rfl, hA, nn, rfl⟩ := hrel
        have hlo := hA.out.lo
        have hhi := hA.out.hi
        have hbd := Lz.at_bd _ _ _ _ hA.out
        rw [toL_len] at hbd
        dsimp only at hbd
        obtain ⟨hb1, hb2, hb3⟩ := hbd
        by_cases hall : 0 ≤ jj ∧ (m' : Int) - jj ≤ 65535 ∧ (x : Int) < (s.size : Int) - (m' : Int)
        · obtain ⟨c1, c2, c3⟩ := hall
          obtain ⟨j, rfl⟩ := Int.eq_ofNat_of_zero_le c1
          have f0 := (HF2.out.drewN nn).hf
          have hsame := fun wx (hx : World.cell? wx ⟨N, 0, none⟩ = some (.string s)) => same_any N s m' j wx hx hs ha2 (by omega)
          have s0 := (HF2.out.drewN nn).hs
          have hst := Lz.at_next (toL s) m' j (x, y) (by rw [toL_len]; exact hi) hA.out (by omega)
          have hsm := (Lz.sm_le (toL s) m' j).1
          have hsm2 := hsame _ s0
          clear hsame hA
          generalize Lz.sm (toL s) m' j = z at *
          dsimp only at hst
          go_wp2_with fail
          refine hsm2.mono ?_
          rintro e w2 ⟨rfl, q2, rfl⟩
          rw [World.drewN_drewN]
          have p0 := (HF2.out.drewN (nn + q2)).hp
          obtain ⟨cs, hcs, hch⟩ := (HF2.out.drewN (nn + q2)).hr
          have r0 := hcs.cell j
          rw [hch.2.1 j (by omega)] at r0
          clear hch hcs
          by_cases hx : x < z
          · rw [if_pos hx] at hst
            have HS := Lib.hid hst
            clear hst
            have hy : ((m' - j : Nat) : Int) = (m' : Int) - (j : Int) := by omega
            go_wp2_with fail
            go_roundw
            case rel => exact ⟨_, z, m' - j, rfl, rfl, by rw [hy], HS, _, rfl⟩
            case measure =>
              have b2 := Lz.prv_bd (toL s) (Lz.wd (toL s) j) j
              simp [intOf]
              omega
          · rw [if_neg hx] at hst
            have HS := Lib.hid hst
            clear hst
            go_wp2_with fail
            go_roundw
            case rel => exact ⟨_, x, y, rfl, rfl, rfl, HS, _, rfl⟩
            case measure =>
              have b2 := Lz.prv_bd (toL s) (Lz.wd (toL s) j) j
              simp [intOf]
              omega
        · have HE : Hid (Lz.fnd (toL s) m' = (x, y)) := Lib.hid (Lz.at_end _ _ _ _ (by rw [toL_len]; exact hi) hA.out (by rw [toL_len]; dsimp only; omega)).symm
          have HF3 := Lib.hid (HF2.out.drewN nn)
          have HC3 := Lib.hid (HC2.out.drewN nn)
          clear hA
          by_cases c1 : 0 ≤ jj
          · by_cases c2 : (m' : Int) - jj ≤ 65535
            · have c3 : ¬ ((x : Int) < (s.size : Int) - (m' : Int)) := fun h => hall ⟨c1, c2, h⟩
              clear hall
              go_wp2_with fail
              go_ret2
              exact FndP.of HE.out HC3.out HF3.out HM.out
            · clear hall
              go_wp2_with fail
              go_ret2
              exact FndP.of HE.out HC3.out HF3.out HM.out
          · clear hall
            go_wp2_with fail
            go_ret2
            exact FndP.of HE.out HC3.out HF3.out HM.out
  · have HE := Lib.hid (Lz.fnd_end (toL s) i (by rw [toL_len]; omega))
    clear hC hF hm' hmi
    go_wp2_with fail
    go_ret2
    exact FndP.of HE.out HC.out HF.out HM.out
end Go.Proofs.YtoggibooinhomaaDoor.Z
