/-
  Plain mathematics of the lines: two instructions that may be have one line only if they are one.
-/
import Derived.Test.YtmafeekhbcpomaaDoorTa
namespace Go.Proofs.YtmafeekhbcpomaaDoor
open Go.RowKit
set_option linter.unusedVariables false
set_option linter.unusedSimpArgs false
theorem cut_at {c : UInt8} : ∀ {l m r s : List UInt8}, c ∉ l → c ∉ m → l ++ c :: r = m ++ c :: s → l = m ∧ r = s
  | [], [], r, s, _, _, h => by simpa using h
  | [], y :: m, r, s, _, h2, h => by
    simp only [List.nil_append, List.cons_append, List.cons.injEq] at h
    exact absurd (h.1 ▸ List.mem_cons_self) h2
  | x :: l, [], r, s, h1, _, h => by
    simp only [List.nil_append, List.cons_append, List.cons.injEq] at h
    exact absurd (h.1 ▸ List.mem_cons_self) h1
  | x :: l, y :: m, r, s, h1, h2, h => by
    simp only [List.cons_append, List.cons.injEq] at h
    have := cut_at (fun k => h1 (List.mem_cons_of_mem _ k)) (fun k => h2 (List.mem_cons_of_mem _ k)) h.2
    exact ⟨by rw [h.1, this.1], this.2⟩
theorem dig_range : ∀ (u : Nat), ∀ c ∈ Lib.decDigits u, 48 ≤ c.toNat ∧ c.toNat ≤ 57 := by
  intro u
  induction u using Nat.strongRecOn with
  | _ u ih =>
    intro c hc
    have one : ∀ d, d < 10 → 48 ≤ (UInt8.ofNat (48 + d)).toNat ∧ (UInt8.ofNat (48 + d)).toNat ≤ 57 := by
      intro d hd
      rw [UInt8.toNat_ofNat']
      omega
    by_cases h : u < 10
    · rw [dig10 u h] at hc
      rw [List.mem_singleton] at hc
      rw [hc]; exact one u h
    · rw [Lib.decDigits, dif_neg h] at hc
      rcases List.mem_append.1 hc with hc | hc
      · exact ih (u / 10) (by omega) c hc
      · rw [List.mem_singleton] at hc
        rw [hc]; exact one _ (by omega)
theorem dig_ne (u : Nat) : Lib.decDigits u ≠ [] := by
  rw [Lib.decDigits]
  split <;> simp
theorem dig_inj : ∀ (u v : Nat), Lib.decDigits u = Lib.decDigits v → u = v := by
  intro u
  induction u using Nat.strongRecOn with
  | _ u ih =>
    intro v h
    have one : ∀ d e, d < 10 → e < 10 → UInt8.ofNat (48 + d) = UInt8.ofNat (48 + e) → d = e := by
      intro d e hd he h
      have := congrArg UInt8.toNat h
      rw [UInt8.toNat_ofNat', UInt8.toNat_ofNat'] at this
      omega
    by_cases hu : u < 10
    · by_cases hv : v < 10
      · rw [dig10 u hu, dig10 v hv] at h
        exact one u v hu hv (by simpa using h)
      · rw [dig10 u hu, Lib.decDigits, dif_neg hv] at h
        have := congrArg List.length h
        have hn := List.length_pos_iff.2 (dig_ne (v / 10))
        simp at this
        exact absurd this (dig_ne _)
    · by_cases hv : v < 10
      · rw [dig10 v hv, Lib.decDigits, dif_neg hu] at h
        have := congrArg List.length h
        simp at this
        exact absurd this (dig_ne _)
      · have du : Lib.decDigits u = Lib.decDigits (u / 10) ++ [UInt8.ofNat (48 + u % 10)] := by conv => lhs; rw [Lib.decDigits, dif_neg hu]
        have dv : Lib.decDigits v = Lib.decDigits (v / 10) ++ [UInt8.ofNat (48 + v % 10)] := by conv => lhs; rw [Lib.decDigits, dif_neg hv]
        rw [du, dv] at h
        have h2 := List.append_inj' h rfl
        have e1 := ih (u / 10) (by omega) (v / 10) h2.1
        have e2 := one (u % 10) (v % 10) (by omega) (by omega) (by simpa using h2.2)
        omega
theorem rt_inj {a b : Nat} (h : rt a = rt b) : a = b := dig_inj a b (by simpa [rt] using h)
theorem rt_no {a : Nat} {c : UInt8} (h : c.toNat < 48) : c ∉ rt a := by
  intro hc
  rcases List.mem_cons.1 hc with e | hc
  · rw [e] at h; revert h; decide
  · have := dig_range a c hc; omega
theorem itoa_no {n : Int} {c : UInt8} (h : c.toNat < 45) : c ∉ Lib.itoa n := by
  intro hc
  unfold Lib.itoa at hc
  split at hc
  · rcases List.mem_cons.1 hc with e | hc
    · rw [e] at h; revert h; decide
    · have := dig_range _ c hc; omega
  · have := dig_range _ c hc; omega
theorem itoa_inj {n m : Int} (h : Lib.itoa n = Lib.itoa m) : n = m := by
  unfold Lib.itoa at h
  have no : ∀ u l, 45 :: l ≠ Lib.decDigits u := fun u l e => by
    have := dig_range u 45 (e ▸ List.mem_cons_self)
    revert this; decide
  split at h
  · split at h
    · have := dig_inj _ _ (by simpa using h); omega
    · exact absurd h (no _ _)
  · split at h
    · exact absurd h.symm (no _ _)
    · have := dig_inj _ _ h; omega
theorem name_inj : ∀ a, a < 32 → ∀ b, b < 32 → name a = name b → a = b := by decide +kernel
theorem name_no : ∀ a, a < 32 → (32 : UInt8) ∉ name a := by decide +kernel
theorem jn3 (a b c : List UInt8) : jn [a, b, c] = a ++ 44 :: (32 :: (b ++ 44 :: (32 :: c))) := by simp [jn]
theorem jn2 (a b : List UInt8) : jn [a, b] = a ++ 44 :: (32 :: b) := by simp [jn]
theorem body_inj {o a b c a' b' c' : Nat} {m m' : Int} (h : body ⟨o, a, b, c, m⟩ = body ⟨o, a', b', c', m'⟩) :
    (Is.hasC o → a = a' ∧ b = b' ∧ c = c') ∧ (¬ Is.hasC o → m = m' ∧ (Is.hasA o → a = a') ∧ (Is.hasB o → b = b')) := by
  have n44 : (44 : UInt8).toNat < 48 := by decide
  have n44' : (44 : UInt8).toNat < 45 := by decide
  have n40 : (40 : UInt8).toNat < 45 := by decide
  unfold body at h
  simp only at h
  by_cases hC : Is.hasC o
  · rw [if_pos hC, if_pos hC, jn3, jn3] at h
    have h1 := cut_at (rt_no n44) (rt_no n44) h
    have h2 := cut_at (rt_no n44) (rt_no n44) (List.cons.inj h1.2).2
    exact ⟨fun _ => ⟨rt_inj h1.1, rt_inj h2.1, rt_inj (List.cons.inj h2.2).2⟩, fun k => absurd hC k⟩
  · rw [if_neg hC, if_neg hC] at h
    refine ⟨fun k => absurd k hC, fun _ => ?_⟩
    by_cases h4 : (20 ≤ o ∧ o ≤ 24) ∨ o = 30
    · rw [if_pos h4, if_pos h4, jn2, jn2] at h
      have h1 := cut_at (rt_no n44) (rt_no n44) h
      have h2 := cut_at (itoa_no n40) (itoa_no n40) (List.cons.inj h1.2).2
      have h3 := List.append_cancel_right h2.2
      exact ⟨itoa_inj h2.1, fun _ => rt_inj h1.1, fun _ => rt_inj h3⟩
    · rw [if_neg h4, if_neg h4] at h
      by_cases hB : Is.hasB o
      · rw [if_pos hB, if_pos hB, jn3, jn3] at h
        have h1 := cut_at (rt_no n44) (rt_no n44) h
        have h2 := cut_at (rt_no n44) (rt_no n44) (List.cons.inj h1.2).2
        exact ⟨itoa_inj (List.cons.inj h2.2).2, fun _ => rt_inj h1.1, fun _ => rt_inj h2.1⟩
      · rw [if_neg hB, if_neg hB] at h
        by_cases hA : Is.hasA o
        · rw [if_pos hA, if_pos hA, jn2, jn2] at h
          have h1 := cut_at (rt_no n44) (rt_no n44) h
          exact ⟨itoa_inj (List.cons.inj h1.2).2, fun _ => rt_inj h1.1, fun k => absurd k hB⟩
        · rw [if_neg hA, if_neg hA] at h
          exact ⟨itoa_inj h, fun k => absurd k hA, fun k => absurd k hB⟩
theorem txt_ok {x : Is.Ins} (h : (Is.enc x).2 = 0) : txt x = name x.op ++ 32 :: body x := by unfold txt; rw [if_neg (by rw [h]; simp)]
theorem txt_inj {x y : Is.Ins} (hx : (Is.enc x).2 = 0) (hy : (Is.enc y).2 = 0) (h : txt x = txt y) : x = y := by
  obtain ⟨o, a, b, c, m⟩ := x
  obtain ⟨o', a', b', c', m'⟩ := y
  obtain ⟨i1, r1, k1⟩ := Is.enc_ok (x := ⟨o, a, b, c, m⟩) (w := (Is.enc ⟨o, a, b, c, m⟩).1) (by rw [← hx])
  obtain ⟨i2, r2, k2⟩ := Is.enc_ok (x := ⟨o', a', b', c', m'⟩) (w := (Is.enc ⟨o', a', b', c', m'⟩).1) (by rw [← hy])
  rw [txt_ok hx, txt_ok hy] at h
  simp only at i1 i2 h
  have l1 : o < 32 := by have := i1.2; omega
  have l2 : o' < 32 := by have := i2.2; omega
  have h1 := cut_at (name_no o l1) (name_no o' l2) h
  obtain rfl := name_inj o l1 o' l2 h1.1
  have h2 := body_inj h1.2
  obtain ⟨ra, rb, rc⟩ := r1
  obtain ⟨sa, sb, sc⟩ := r2
  simp only at ra rb rc sa sb sc k1 k2
  have z : ∀ (p : Prop) (u v : Nat), Is.right p u → Is.right p v → (p → u = v) → u = v := by
    intro p u v h1 h2 h3
    by_cases hp : p
    · exact h3 hp
    · have e1 : u = 0 := h1.resolve_right fun k => hp k.1
      have e2 : v = 0 := h2.resolve_right fun k => hp k.1
      rw [e1, e2]
  by_cases hC : Is.hasC o
  · obtain ⟨e1, e2, e3⟩ := h2.1 hC
    have f1 : m = 0 := by
      rcases k1 with ⟨_, h, _⟩ | ⟨h, _, _⟩
      · exact h
      · exact absurd hC h
    have f2 : m' = 0 := by
      rcases k2 with ⟨_, h, _⟩ | ⟨h, _, _⟩
      · exact h
      · exact absurd hC h
    rw [e1, e2, e3, f1, f2]
  · obtain ⟨e1, e2, e3⟩ := h2.2 hC
    rw [e1, z _ _ _ ra sa e2, z _ _ _ rb sb e3, z _ _ _ rc sc (fun k => absurd k hC)]
end Go.Proofs.YtmafeekhbcpomaaDoor
