/-
  THE WALKS of the code's finder: its three closures, and what they have captured.
-/
import Derived.Test.YtoggibooinhomaaDoorZLs
import Derived.Maps.Own
import Derived.Maps.OwnOps
import Derived.Maps.OwnSet
import Derived.Maps.Views
namespace Go.Proofs.YtoggibooinhomaaDoor.Z
open Go.RowKit
set_option linter.unusedVariables false
set_option linter.unusedSimpArgs false
set_option maxRecDepth 100000 in
set_option maxHeartbeats 1000000 in
theorem same_any (g : Nat) (s : ByteArray) (i j : Nat) (w : World) (hg : w.cell? ⟨g, 0, none⟩ = some (.string s)) (hs : s.size ≤ 1000000) (hi : i ≤ s.size) (hj : j ≤ i) :
    Calls Tryd.prog 18 #[.int .i64 i, .int .i64 j, .pointer (some ⟨g, 0, none⟩)] w fun e w' => e = .returned (.int .i64 (Lz.sm (toL s) i j : Nat)) ∧ ∃ n, w' = w.drewN n := by
  by_cases hb : 131 ≤ s.size - i
  · go_enter Tryd.func18, Tryd.ntmps18
    go_wp2_with fail
    go_loopw [7] (fun n wr => ∃ k : Nat, n = .int .i64 k ∧ (∃ q, wr = w.drewN q) ∧ Hid (Alike (toL s) i j k)) (fun n _ => 131 - (intOf n).toNat)
    case atStart => exact ⟨0, rfl, ⟨0, rfl⟩, ⟨by omega, by rw [toL_len]; omega, fun m hm => by omega⟩⟩
    case round =>
      obtain ⟨k, rfl, ⟨nn, rfl⟩, hA⟩ := hrel
      have hk : k ≤ 131 := hA.out.1
      have hk2 : i + k ≤ s.size := by have := hA.out.2.1; rw [toL_len] at this; exact this
      by_cases c1 : k < 131
      · obtain ⟨p, hp⟩ : ∃ p, p = i + k := ⟨_, rfl⟩
        obtain ⟨q, hq⟩ : ∃ q, q = j + k := ⟨_, rfl⟩
        have e1 : (i : Int) + (k : Int) = (p : Int) := by omega
        have e2 : (j : Int) + (k : Int) = (q : Int) := by omega
        have w1 : IntKind.i64.wrap (p : Int) = (p : Int) := IntWalk.i64_in _ (by omega)
        have w2 : IntKind.i64.wrap (q : Int) = (q : Int) := IntWalk.i64_in _ (by omega)
        have p0 : (0 : Int) ≤ (p : Int) := by omega
        have p1 : (p : Int) < (s.size : Int) := by omega
        have q0 : (0 : Int) ≤ (q : Int) := by omega
        have q1 : (q : Int) < (s.size : Int) := by omega
        have k1 : (k : Int) < (131 : Int) := by omega
        have p2 : p < s.size := by omega
        have q2 : q < s.size := by omega
        by_cases c3 : s[p] = s[q]
        · have HN : Hid (Alike (toL s) i j (k + 1)) := Lib.hid (alike_next hA.out (by omega) (by omega) hj (by
            subst hp hq
            exact c3))
          have tb : ((s[p].toNat : Int) == (s[q].toNat : Int)) = true := by rw [c3]; exact beq_self_eq_true _
          clear c3 hA hp hq
          go_wp2_with fail
          go_quiet (fail)
          go_wp2_with fail
          go_roundw
          case rel => exact ⟨k + 1, by go_num, ⟨_, by first | rfl | rw [World.drewN_drewN]⟩, HN⟩
          case measure => simp [intOf]; omega
        · have HE := Lib.hid (alike_end hA.out hj (.inr (.inr ⟨by omega, by
            subst hp hq
            exact c3⟩)))
          have tb := byte_ne c3
          clear c3 hA hp hq
          go_wp2_with fail
          go_quiet (fail)
          go_wp2_with fail
          go_ret
          exact ⟨ret_int (by rw [HE.out]), ⟨_, by first | rfl | rw [World.drewN_drewN]⟩⟩
      · have HE := Lib.hid (alike_end hA.out hj (.inl (by omega)))
        have k1 : decide ((k : Int) < (131 : Int)) = false := by rw [decide_eq_false_iff_not]; omega
        clear hA
        go_wp2_with fail
        go_quiet (fail)
        go_wp2_with fail
        go_ret
        exact ⟨ret_int (by rw [HE.out]), ⟨_, by first | rfl | rw [World.drewN_drewN]⟩⟩
  · go_enter Tryd.func18, Tryd.ntmps18
    go_wp2_with fail
    go_loopw [7] (fun n wr => ∃ k : Nat, n = .int .i64 k ∧ (∃ q, wr = w.drewN q) ∧ Hid (Alike (toL s) i j k)) (fun n _ => 131 - (intOf n).toNat)
    case atStart => exact ⟨0, rfl, ⟨0, rfl⟩, ⟨by omega, by rw [toL_len]; omega, fun m hm => by omega⟩⟩
    case round =>
      obtain ⟨k, rfl, ⟨nn, rfl⟩, hA⟩ := hrel
      have hk : k ≤ 131 := hA.out.1
      have hk2 : i + k ≤ s.size := by have := hA.out.2.1; rw [toL_len] at this; exact this
      by_cases c1 : i + k < s.size
      · obtain ⟨p, hp⟩ : ∃ p, p = i + k := ⟨_, rfl⟩
        obtain ⟨q, hq⟩ : ∃ q, q = j + k := ⟨_, rfl⟩
        have e1 : (i : Int) + (k : Int) = (p : Int) := by omega
        have e2 : (j : Int) + (k : Int) = (q : Int) := by omega
        have w1 : IntKind.i64.wrap (p : Int) = (p : Int) := IntWalk.i64_in _ (by omega)
        have w2 : IntKind.i64.wrap (q : Int) = (q : Int) := IntWalk.i64_in _ (by omega)
        have p0 : (0 : Int) ≤ (p : Int) := by omega
        have p1 : (p : Int) < (s.size : Int) := by omega
        have q0 : (0 : Int) ≤ (q : Int) := by omega
        have q1 : (q : Int) < (s.size : Int) := by omega
        have k1 : (k : Int) < ((s.size : Int) - (i : Int) : Int) := by omega
        have p2 : p < s.size := by omega
        have q2 : q < s.size := by omega
        by_cases c3 : s[p] = s[q]
        · have HN : Hid (Alike (toL s) i j (k + 1)) := Lib.hid (alike_next hA.out (by omega) (by omega) hj (by
            subst hp hq
            exact c3))
          have tb : ((s[p].toNat : Int) == (s[q].toNat : Int)) = true := by rw [c3]; exact beq_self_eq_true _
          clear c3 hA hp hq
          go_wp2_with fail
          go_quiet (fail)
          go_wp2_with fail
          go_roundw
          case rel => exact ⟨k + 1, by go_num, ⟨_, by first | rfl | rw [World.drewN_drewN]⟩, HN⟩
          case measure => simp [intOf]; omega
        · have HE := Lib.hid (alike_end hA.out hj (.inr (.inr ⟨by omega, by
            subst hp hq
            exact c3⟩)))
          have tb := byte_ne c3
          clear c3 hA hp hq
          go_wp2_with fail
          go_quiet (fail)
          go_wp2_with fail
          go_ret
          exact ⟨ret_int (by rw [HE.out]), ⟨_, by first | rfl | rw [World.drewN_drewN]⟩⟩
      · have HE := Lib.hid (alike_end hA.out hj (.inr (.inl (by omega))))
        have k1 : decide ((k : Int) < ((s.size : Int) - (i : Int) : Int)) = false := by rw [decide_eq_false_iff_not]; omega
        clear hA
        go_wp2_with fail
        go_quiet (fail)
        go_wp2_with fail
        go_ret
        exact ⟨ret_int (by rw [HE.out]), ⟨_, by first | rfl | rw [World.drewN_drewN]⟩⟩
end Go.Proofs.YtoggibooinhomaaDoor.Z
