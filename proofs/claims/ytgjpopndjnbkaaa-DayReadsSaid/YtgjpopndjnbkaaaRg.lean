/-
  What the code reads and what the document's answer reads are the same: plain mathematics.
-/
import Derived.Test.YtgjpopndjnbkaaaRf
namespace Go.Proofs.Ytgjpopndjnbkaaa
open Go.RowKit Go.Shelf
theorem toL_append (a b : ByteArray) : toL (a ++ b) = toL a ++ toL b := by simp [toL]
theorem list16 : ∀ (l : List UInt8), l.length = 16 → ∃ a0 a1 a2 a3 a4 a5 a6 a7 a8 a9 b0 b1 b2 b3 b4 b5, l = [a0, a1, a2, a3, a4, a5, a6, a7, a8, a9, b0, b1, b2, b3, b4, b5] := by
  intro l h
  match l, h with
  | [a0, a1, a2, a3, a4, a5, a6, a7, a8, a9, b0, b1, b2, b3, b4, b5], _ => exact ⟨a0, a1, a2, a3, a4, a5, a6, a7, a8, a9, b0, b1, b2, b3, b4, b5, rfl⟩
theorem RIs.toL {s : ByteArray} (h : RIs s) : toL s = txL (rp s 0 4).toNat (rp s 5 7).toNat (rp s 8 10).toNat (rp s 11 13).toNat (rp s 14 16).toNat := by
  obtain ⟨h16, hsp, hY, ⟨hM, _⟩, ⟨hD, _⟩, ⟨hH, _⟩, hI, _⟩ := h
  have hl : (Ytgjpopndjnbkaaa.toL s).length = 16 := by rw [toL_length]; exact h16
  have e1 : Ytgjpopndjnbkaaa.toL (sp s) = [45, 45, 32, 58] := by rw [hsp]; rfl
  unfold sp at e1
  rw [toL_append, toL_append, toL_append, toL_extract, toL_extract, toL_extract, toL_extract] at e1
  unfold rp at *
  simp only [toL_extract] at *
  generalize Ytgjpopndjnbkaaa.toL s = l at *
  obtain ⟨a0, a1, a2, a3, a4, a5, a6, a7, a8, a9, b0, b1, b2, b3, b4, b5, rfl⟩ := list16 l hl
  have s0 : 0 ≤ rn [a0, a1, a2, a3] 0 := hY
  have s1 : 0 ≤ rn [a5, a6] 0 := by have : 1 ≤ rn [a5, a6] 0 := hM; omega
  have s2 : 0 ≤ rn [a8, a9] 0 := by have : 1 ≤ rn [a8, a9] 0 := hD; omega
  have s3 : 0 ≤ rn [b1, b2] 0 := hH
  have s4 : 0 ≤ rn [b4, b5] 0 := hI
  have e2 : [a4, a7, b0, b3] = [45, 45, 32, 58] := e1
  injection e2 with q0 e2
  injection e2 with q1 e2
  injection e2 with q2 e2
  injection e2 with q3 _
  have d0 : [a0, a1, a2, a3] = digs (rn [a0, a1, a2, a3] 0).toNat 4 := (rn_spec _ 0 (by omega) s0).2
  have d1 : [a5, a6] = digs (rn [a5, a6] 0).toNat 2 := (rn_spec _ 0 (by omega) s1).2
  have d2 : [a8, a9] = digs (rn [a8, a9] 0).toNat 2 := (rn_spec _ 0 (by omega) s2).2
  have d3 : [b1, b2] = digs (rn [b1, b2] 0).toNat 2 := (rn_spec _ 0 (by omega) s3).2
  have d4 : [b4, b5] = digs (rn [b4, b5] 0).toNat 2 := (rn_spec _ 0 (by omega) s4).2
  show _ = digs (rn [a0, a1, a2, a3] 0).toNat 4 ++ [45] ++ digs (rn [a5, a6] 0).toNat 2 ++ [45] ++ digs (rn [a8, a9] 0).toNat 2 ++ [32] ++ digs (rn [b1, b2] 0).toNat 2 ++ [58] ++ digs (rn [b4, b5] 0).toNat 2
  rw [← d0, ← d1, ← d2, ← d3, ← d4, q0, q1, q2, q3]
  rfl
theorem RIs.is {s : ByteArray} (h : RIs s) : text (rmin s) = s ∧ ¬ out (rmin s) ∧ D0 (rmin s) := by
  have ht := h.toL
  have hb := (rp_bd s 0 4).1 (by decide)
  obtain ⟨_, _, hY, ⟨hM, hM2⟩, ⟨hD, hD2⟩, ⟨hH, hH2⟩, hI, hI2⟩ := h
  have hr : rmin s = 1440 * nb (rp s 0 4) (rp s 5 7 - 1) (rp s 8 10 - 1) + 60 * rp s 11 13 + rp s 14 16 := rfl
  have hp := nb_parts (y := rp s 0 4) (m := rp s 5 7 - 1) (d := rp s 8 10 - 1) ⟨by omega, by omega⟩ ⟨by omega, by omega⟩
  have dmb := Cal.dm_bd (rp s 0 4) (rp s 5 7 - 1)
  have hnb := nb_bd (y := rp s 0 4) (m := rp s 5 7 - 1) (d := rp s 8 10 - 1) (by omega) (by omega) (by omega)
  generalize rp s 0 4 = Y at *
  generalize rp s 5 7 = M at *
  generalize rp s 8 10 = D at *
  generalize rp s 11 13 = H at *
  generalize rp s 14 16 = I at *
  generalize nb Y (M - 1) (D - 1) = N at *
  generalize rmin s = n at *
  have hd : Cal.day n = N := by unfold Cal.day; omega
  have ho : ¬ out n := by unfold out; rw [hd, hp.1]; omega
  refine ⟨toL_inj ?_, ho, by unfold D0; omega⟩
  rw [toL_text ho, hd, hp.1, hp.2.1, hp.2.2, ht]
  rw [show M - 1 + 1 = M from by omega, show D - 1 + 1 = D from by omega, show n % 1440 / 60 = H from by omega, show n % 60 = I from by omega]
theorem dd_dm (d : Int) : dd d < Cal.dm (ye d) (mt d) := by
  have S := Cal.mo_spec (r := d % 146097) (by omega) (by omega)
  have hy : Cal.dm (ye d) (mt d) = Cal.md (Cal.mo (d % 146097)) := by
    unfold ye mt Cal.md
    rw [← Cal.dm_cycle (2000 + ((Cal.mo (d % 146097) / 12 : Nat) : Int)) (d / 146097)]
    congr 1
    omega
  have hst : Cal.sm (Cal.mo (d % 146097) + 1) = Cal.sm (Cal.mo (d % 146097)) + Cal.md (Cal.mo (d % 146097)) := rfl
  rw [hy]
  unfold dd
  omega
theorem text_RIs {n : Int} (hD : D0 n) (ho : ¬ out n) : RIs (text n) ∧ rmin (text n) = n := by
  have hb := date_bd hD.day.1 hD.day.2
  have hdm := dd_dm (Cal.day n)
  have hnb := nb_ye (Cal.day n)
  have hy : ¬ (ye (Cal.day n) < 0 ∨ 9999 < ye (Cal.day n)) := ho
  have ht := toL_text ho
  have hday : Cal.day n = n / 1440 := rfl
  have p2 : (10 : Nat) ^ 2 = 100 := rfl
  have p4 : (10 : Nat) ^ 4 = 10000 := rfl
  have r0 : rp (text n) 0 4 = ye (Cal.day n) := by
    unfold rp; rw [toL_extract, ht]
    show rn (digs (ye (Cal.day n)).toNat 4) 0 = _
    rw [rn_digs (by omega)]; omega
  have r1 : rp (text n) 5 7 = mt (Cal.day n) + 1 := by
    unfold rp; rw [toL_extract, ht]
    show rn (digs (mt (Cal.day n) + 1).toNat 2) 0 = _
    rw [rn_digs (by omega)]; omega
  have r2 : rp (text n) 8 10 = dd (Cal.day n) + 1 := by
    unfold rp; rw [toL_extract, ht]
    show rn (digs (dd (Cal.day n) + 1).toNat 2) 0 = _
    rw [rn_digs (by omega)]; omega
  have r3 : rp (text n) 11 13 = n % 1440 / 60 := by
    unfold rp; rw [toL_extract, ht]
    show rn (digs (n % 1440 / 60).toNat 2) 0 = _
    rw [rn_digs (by omega)]; omega
  have r4 : rp (text n) 14 16 = n % 60 := by
    unfold rp; rw [toL_extract, ht]
    show rn (digs (n % 60).toNat 2) 0 = _
    rw [rn_digs (by omega)]; omega
  unfold RIs rmin
  rw [r0, r1, r2, r3, r4, show mt (Cal.day n) + 1 - 1 = mt (Cal.day n) from by omega, show dd (Cal.day n) + 1 - 1 = dd (Cal.day n) from by omega, hnb]
  refine ⟨⟨text_size ho, ?_, by omega, by omega, by omega, by omega, by omega, by omega⟩, by omega⟩
  apply toL_inj
  unfold sp
  rw [toL_append, toL_append, toL_append, toL_extract, toL_extract, toL_extract, toL_extract, ht]
  rfl
/-- the two answers to one text -/
theorem both {s : ByteArray} {e e' : Ending} (h : OfIs s e) (h' : ROf s e') :
    (∃ n, e = .returned (.tuple #[.int .i64 n, .bool true]) ∧ e' = .returned (.tuple #[.int .i64 n, .bool true]) ∧ text n = s ∧ D0 n) ∨
    (e = .returned (.tuple #[.int .i64 0, .bool false]) ∧ e' = .returned (.tuple #[.int .i64 0, .bool false])) := by
  rcases h with ⟨he, ht, h16, hD⟩ | ⟨he, hn⟩
  · have ho : ¬ out (rdm (toL s)) := fun o => by
      rw [text_out o] at ht
      rw [← ht] at h16
      exact absurd h16 (by decide)
    obtain ⟨hr, hm⟩ := text_RIs hD ho
    rw [ht] at hr hm
    rcases h' with ⟨he', _⟩ | ⟨_, hn'⟩
    · exact .inl ⟨_, he, by rw [he', hm], ht, hD⟩
    · exact absurd hr hn'
  · rcases h' with ⟨_, hr⟩ | ⟨he', _⟩
    · obtain ⟨ht, ho, hD⟩ := hr.is
      have h1 := text_rdm hD ho
      have h2 := text_good ho
      have h3 := text_month hD ho
      have h4 := date_bd hD.day.1 hD.day.2
      rw [ht] at h1 h2 h3
      exact absurd ⟨hr.1, h2, by rw [h3]; omega, by rw [h3]; omega, by rw [h1]; exact ht⟩ hn
    · exact .inr ⟨he, he'⟩
end Go.Proofs.Ytgjpopndjnbkaaa
