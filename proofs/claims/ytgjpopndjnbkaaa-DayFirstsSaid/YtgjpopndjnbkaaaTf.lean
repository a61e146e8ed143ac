/-
  From a day to the next one: plain mathematics.
-/
import Derived.Test.YtgjpopndjnbkaaaTm
namespace Go.Proofs.Ytgjpopndjnbkaaa
theorem next_day (D : Int) : (dd (D + 1) = 0 ∧ (ye (D + 1) - 2000) * 12 + mt (D + 1) = (ye D - 2000) * 12 + mt D + 1) ∨ (dd (D + 1) ≠ 0 ∧ ye (D + 1) = ye D ∧ mt (D + 1) = mt D) := by
  have r0 : 0 ≤ D % 146097 := by omega
  have r1 : D % 146097 < 146097 := by omega
  have S := Cal.mo_spec r0 r1
  unfold dd ye mt
  by_cases hr : D % 146097 + 1 < 146097
  · have e1 : (D + 1) % 146097 = D % 146097 + 1 := by omega
    have e2 : (D + 1) / 146097 = D / 146097 := by omega
    rw [e1, e2]
    by_cases hn : D % 146097 + 1 < Cal.sm (Cal.mo (D % 146097) + 1)
    · have e := Cal.mo_unique (r := D % 146097 + 1) (k := Cal.mo (D % 146097)) (by omega) hr (by omega) hn
      rw [← e]
      right
      omega
    · have hb := Cal.md_bd (Cal.mo (D % 146097) + 1)
      have hs : Cal.sm (Cal.mo (D % 146097) + 1 + 1) = Cal.sm (Cal.mo (D % 146097) + 1) + Cal.md (Cal.mo (D % 146097) + 1) := rfl
      have e := Cal.mo_unique (r := D % 146097 + 1) (k := Cal.mo (D % 146097) + 1) (by omega) hr (by omega) (by omega)
      rw [← e]
      left
      omega
  · have e1 : (D + 1) % 146097 = 0 := by omega
    have e2 : (D + 1) / 146097 = D / 146097 + 1 := by omega
    have e3 : Cal.mo (D % 146097) = 4799 := by
      have : ¬ Cal.mo (D % 146097) + 1 ≤ 4799 := fun h => by
        have h1 := Cal.sm_le _ _ h
        have h2 : Cal.sm (4799 + 1) = Cal.sm 4799 + Cal.md 4799 := rfl
        have h3 := Cal.sm_cycle
        have h4 := Cal.md_bd 4799
        have h5 : Cal.sm (4799 + 1) = 146097 := h3
        omega
      omega
    rw [e1, e2, e3, mo0]
    left
    have : Cal.sm 0 = 0 := rfl
    omega
end Go.Proofs.Ytgjpopndjnbkaaa
