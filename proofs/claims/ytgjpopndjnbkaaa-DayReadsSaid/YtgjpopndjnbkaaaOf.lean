/-
  THE WALK of the reading of a text, of the code.
-/
import Derived.Test.YtgjpopndjnbkaaaIx
namespace Go.Proofs.Ytgjpopndjnbkaaa
open Go.RowKit Go.Shelf
theorem toL_extract (s : ByteArray) (a b : Nat) : toL (s.extract a b) = ((toL s).drop a).take (b - a) := by
  simp [toL, ByteArray.data_extract, List.extract_eq_take_drop]
theorem quietS {P : Program} {f : FuncId} {args : Array Value} {w : World} {n : Nat} {v : Value}
    (h : Calls P f args (w.drewN n) fun e w' => e = .returned v ∧ w.drewN n = w') : Calls P f args (w.drewN n) fun e w'' => e = .returned v ∧ ∃ m, w'' = w.drewN m :=
  h.mono fun _ _ ⟨he, hm⟩ => ⟨he, n, hm.symm⟩
/-- a piece of a text as a number, and how great it may be -/
def pc (s : ByteArray) (a b : Nat) : Int := vl (toL (s.extract a b)) 0
theorem pc_eq (s : ByteArray) (a b : Nat) : pc s a b = vl (((toL s).drop a).take (b - a)) 0 := by unfold pc; rw [toL_extract]
theorem pc_bd (s : ByteArray) (a b : Nat) (h4 : b ≤ a + 4) : (-1000000000000 ≤ pc s a b ∧ pc s a b ≤ 1000000000000) ∧ (b ≤ a + 2 → -1000000 ≤ pc s a b ∧ pc s a b ≤ 1000000) := by
  have hl : (toL (s.extract a b)).length ≤ b - a := by rw [toL_length, ByteArray.size_extract]; omega
  have hv := vl_bd (toL (s.extract a b)) 0 1 (by omega) (by omega) (by omega)
  unfold pc
  generalize (toL (s.extract a b)).length = L at *
  refine ⟨?_, ?_⟩
  · have : L = 0 ∨ L = 1 ∨ L = 2 ∨ L = 3 ∨ L = 4 := by omega
    rcases this with e | e | e | e | e <;> rw [e] at hv <;> omega
  · intro h
    have : L = 0 ∨ L = 1 ∨ L = 2 := by omega
    rcases this with e | e | e <;> rw [e] at hv <;> omega
theorem pc_any (s : ByteArray) (a b : Nat) (w : World) (h4 : b ≤ a + 4) : Calls Try.prog 31 #[.string (s.extract a b)] w fun e w' => e = .returned (.int .i64 (pc s a b)) ∧ w = w' :=
  value_any (s.extract a b) w (by rw [ByteArray.size_extract]; omega)
def monthOf (l : List UInt8) : Int := vl ((l.drop 5).take 2) 0 - 1
/-- the minute that a text's digits tell -/
def rdm (l : List UInt8) : Int := nb (vl (l.take 4) 0) (monthOf l) (vl ((l.drop 8).take 2) 0 - 1) * 1440 + vl ((l.drop 11).take 2) 0 * 60 + vl ((l.drop 14).take 2) 0
def good (s : ByteArray) : Prop := ∀ k (hk : k < s.size), s[k].toNat < 128 ∧ other s[k].toNat = false
def OfIs (s : ByteArray) (e : Ending) : Prop :=
  (e = .returned (.tuple #[.int .i64 (rdm (toL s)), .bool true]) ∧ text (rdm (toL s)) = s ∧ s.size = 16 ∧ D0 (rdm (toL s))) ∨
  (e = .returned (.tuple #[.int .i64 0, .bool false]) ∧ ¬ (s.size = 16 ∧ good s ∧ 0 ≤ monthOf (toL s) ∧ monthOf (toL s) < 12 ∧ text (rdm (toL s)) = s))
set_option maxRecDepth 100000 in
set_option maxHeartbeats 2000000 in
theorem of_any (s : ByteArray) (W : World) (hs : s.size ≤ 9223372036854775807) : Calls Try.prog 21 #[.string s] W fun e w' => OfIs s e ∧ Below W.heap.size W w' := by
  by_cases h16 : s.size = 16
  · have hidx := idxFrom_good other s
    go_enter Try.func21, Try.ntmps21
    go_wp2_with fail
    refine (index_any _ _).mono ?_
    rintro e w1 ⟨rfl, hb1⟩
    have hI := Lib.idxFunc_range other true s
    have hgood : good s → Lib.idxFunc other true s = -1 := fun h => hidx h _ _ (by omega)
    clear hidx
    generalize Lib.idxFunc other true s = I at *
    by_cases hI0 : 0 ≤ I
    · go_wp2_with fail
      go_ret2
      refine ⟨.inr ⟨rfl, fun h => ?_⟩, hb1⟩
      have := hgood h.2.1
      omega
    · have : I = -1 := by omega
      subst this
      clear hgood hI hI0
      go_wp2_with fail
      obtain ⟨bY, _⟩ := pc_bd s 0 4 (by omega)
      have bM := (pc_bd s 5 7 (by omega)).2 (by omega)
      have bD := (pc_bd s 8 10 (by omega)).2 (by omega)
      have bH := (pc_bd s 11 13 (by omega)).2 (by omega)
      have bN := (pc_bd s 14 16 (by omega)).2 (by omega)
      have hmo : monthOf (toL s) = pc s 5 7 - 1 := by unfold monthOf; rw [pc_eq]
      have hr : rdm (toL s) = nb (pc s 0 4) (pc s 5 7 - 1) (pc s 8 10 - 1) * 1440 + pc s 11 13 * 60 + pc s 14 16 := by
        unfold rdm; rw [hmo, pc_eq s 0, pc_eq s 8, pc_eq s 11, pc_eq s 14]; rfl
      have HR := Lib.hid hr
      have HM := Lib.hid hmo
      clear hmo hr
      go_quiet ((go_at_call 31; exact quietS (pc_any s _ _ _ (by omega))))
      by_cases hm0 : pc s 5 7 - 1 < 0
      · go_wp2_with fail
        go_ret2
        refine ⟨.inr ⟨rfl, fun h => ?_⟩, below_dr hb1 ⟨_, rfl⟩⟩
        have := h.2.2.1
        rw [HM.out] at this
        omega
      · by_cases hm1 : 12 ≤ pc s 5 7 - 1
        · go_wp2_with fail
          go_ret2
          refine ⟨.inr ⟨rfl, fun h => ?_⟩, below_dr hb1 ⟨_, rfl⟩⟩
          have := h.2.2.2.1
          rw [HM.out] at this
          omega
        · have hb2 : Below W.heap.size W (w1.drewN nq) := below_dr hb1 ⟨_, rfl⟩
          generalize w1.drewN nq = w2 at *
          have nbd : -500000000000000 ≤ nb (pc s 0 4) (pc s 5 7 - 1) (pc s 8 10 - 1) ∧ nb (pc s 0 4) (pc s 5 7 - 1) (pc s 8 10 - 1) ≤ 500000000000000 := by
            have k0 := Cal.sm_nonneg (12 * ((pc s 0 4 - 2000) % 400).toNat + (pc s 5 7 - 1).toNat)
            have k1 := Cal.sm_le (12 * ((pc s 0 4 - 2000) % 400).toNat + (pc s 5 7 - 1).toNat) 4800 (by omega)
            rw [Cal.sm_cycle] at k1
            unfold nb
            omega
          have cnb := fun w => number_any (pc s 0 4) (pc s 5 7 - 1) (pc s 8 10 - 1) w (by omega) (by omega) (by omega)
          have CNB := Lib.hid cnb
          clear cnb
          have w1' : IntKind.i64.wrap (nb (pc s 0 4) (pc s 5 7 - 1) (pc s 8 10 - 1) * 1440) = nb (pc s 0 4) (pc s 5 7 - 1) (pc s 8 10 - 1) * 1440 := IntWalk.i64_in _ (by omega)
          have w2' : IntKind.i64.wrap (pc s 11 13 * 60) = pc s 11 13 * 60 := IntWalk.i64_in _ (by omega)
          have w3' : IntKind.i64.wrap (nb (pc s 0 4) (pc s 5 7 - 1) (pc s 8 10 - 1) * 1440 + pc s 11 13 * 60) = nb (pc s 0 4) (pc s 5 7 - 1) (pc s 8 10 - 1) * 1440 + pc s 11 13 * 60 := IntWalk.i64_in _ (by omega)
          have w4' : IntKind.i64.wrap (nb (pc s 0 4) (pc s 5 7 - 1) (pc s 8 10 - 1) * 1440 + pc s 11 13 * 60 + pc s 14 16) = nb (pc s 0 4) (pc s 5 7 - 1) (pc s 8 10 - 1) * 1440 + pc s 11 13 * 60 + pc s 14 16 := IntWalk.i64_in _ (by omega)
          have hD0 : D0 (nb (pc s 0 4) (pc s 5 7 - 1) (pc s 8 10 - 1) * 1440 + pc s 11 13 * 60 + pc s 14 16) := by unfold D0; omega
          go_wp2_with fail
          go_region_with (first | (go_at_call 32; refine (CNB.out _).mono ?_; rintro e w3 ⟨rfl, hb3⟩) | (go_at_call 31; refine (pc_any s _ _ _ (by omega)).mono ?_; rintro e w3 ⟨rfl, rfl⟩))
          have hb4 := hb2.drew.trans (hb3.mono hb2.drew.size)
          rw [← HR.out] at hD0
          have HR' := HR.out
          go_wp2_with fail
          rw [← HR']
          refine (text_any _ _ hD0).mono ?_
          rintro e w5 ⟨rfl, hb5⟩
          have hb6 := hb4.trans (hb5.mono hb4.size)
          clear w1' w2' w3' w4' hb5 hb3
          go_wp2_with fail
          · rename_i hh
            go_ret2
            refine ⟨.inr ⟨rfl, fun h => ?_⟩, hb6⟩
            have h5 := h.2.2.2.2
            rw [HR'] at h5
            rw [h5] at hh
            simp at hh
          · rename_i hh
            go_ret2
            refine ⟨.inl ⟨?_, ?_, h16, hD0⟩, hb6⟩
            · rw [HR']; rfl
            · rw [HR']
              simp only [Bool.not_eq_false', beq_iff_eq] at hh
              rw [ByteArray.toList_eq, ByteArray.toList_eq] at hh
              exact toL_inj hh
  · have hne : ((s.size : Int) == 16) = false := by rw [beq_eq_false_iff_ne]; omega
    go_enter Try.func21, Try.ntmps21
    go_wp2_with fail
    go_ret2
    exact ⟨.inr ⟨rfl, fun h => h16 h.1⟩, Below.refl _ _⟩
end Go.Proofs.Ytgjpopndjnbkaaa
