/-
  THE WALK of the chapter's example; what the laws' arguments are.
-/
import Derived.Test.YtaafcddcglngeaaXc
namespace Go.Proofs.Ytaafcddcglngeaa
open Go.RowKit
theorem by_zero (n : Nat) : Ch.By (List.replicate n 0) := fun x hx => by
  rw [List.eq_of_mem_replicate hx]; decide
set_option maxRecDepth 100000 in
set_option maxHeartbeats 2000000 in
theorem fixed_any (w : World) : Calls Try.prog 9 #[] w fun e w' => e = .returned (.bool true) ∧ Below w.heap.size w w' := by
  have hcall := fun w => block_any (List.replicate 32 0) (List.replicate 12 0) 0 (by_zero _) (by_zero _) rfl rfl (by decide) w
  have lB := Ch.block_length (List.replicate 32 0) (List.replicate 12 0) 0
  have hz := Ch.zero_block
  generalize Ch.block (List.replicate 32 0) (List.replicate 12 0) 0 = Bk at *
  have v : Ch.nth Bk 0 = 118 ∧ Ch.nth Bk 1 = 184 ∧ Ch.nth Bk 2 = 224 ∧ Ch.nth Bk 3 = 173 := by
    match Bk, lB, hz with
    | a :: b :: c :: d :: t, _, hz =>
      simp only [List.take_succ_cons, List.take_zero, List.cons.injEq, and_true] at hz
      exact hz
  obtain ⟨v0, v1, v2, v3⟩ := v
  clear hz
  go_enter Try.func9, Try.ntmps9
  go_wp2_with fail
  change Calls _ _ #[.agg (vs .u8 (List.replicate 32 0)), .agg (vs .u8 (List.replicate 12 0)), .int .u32 ((0 : Nat) : Int)] _ _
  refine (hcall _).mono ?_
  rintro e w1 ⟨rfl, hb⟩
  have o := Own.new w1 27 (vs .u8 Bk)
  have c0 := o.cell (i := 0) (by omega)
  have c1 := o.cell (i := 1) (by omega)
  have c2 := o.cell (i := 2) (by omega)
  have c3 := o.cell (i := 3) (by omega)
  rw [v0] at c0
  rw [v1] at c1
  rw [v2] at c2
  rw [v3] at c3
  clear v0 v1 v2 v3 o hcall
  go_wp2_with (refine sto_new t27 rfl rfl rfl rfl rfl rfl lB ?_)
  go_ret
  exact ⟨rfl, hb.alloc hb.size _⟩
theorem u8_ok {W : World} {base : Nat} {v : Value} (h : Cell.okWide Try.prog W .any base 5 v) : ∃ m : Nat, v = .int .u8 (m : Int) ∧ m < 256 := by
  unfold Cell.okWide at h
  rw [Try.underlying5] at h
  cases v <;> simp only [Cell.ok, Try.underlying5] at h
  obtain ⟨rfl, h⟩ := h
  rename_i n
  simp [IntKind.has, IntKind.min, IntKind.max, IntKind.signed, IntKind.bits] at h
  obtain ⟨m, rfl⟩ := Int.eq_ofNat_of_zero_le h.1
  exact ⟨m, rfl, by omega⟩
/-- cells that are bytes -/
theorem bytes_of (cs : Array Value) (h : ∀ (i : Nat) v, cs[i]? = some v → ∃ m : Nat, v = .int .u8 (m : Int) ∧ m < 256) : ∃ K : List Nat, cs = vs .u8 K ∧ K.length = cs.size ∧ Ch.By K := by
  refine ⟨cs.toList.map fun v => (intOf v).toNat, ?_, by simp, ?_⟩
  · apply Array.ext_getElem?
    intro i
    unfold vs
    simp only [List.map_map, List.getElem?_toArray, List.getElem?_map, Array.getElem?_toList]
    cases hi : cs[i]? with
    | none => rfl
    | some v =>
      obtain ⟨m, rfl, _⟩ := h i v hi
      rfl
  · intro x hx
    obtain ⟨v, hv, rfl⟩ := List.mem_map.1 hx
    obtain ⟨i, hi, rfl⟩ := List.getElem_of_mem hv
    obtain ⟨m, hm, hlt⟩ := h i cs[i] (by simp at hi; simp [hi])
    simp only [Array.getElem_toList]
    rw [hm]
    exact hlt
theorem okArr {t n : Nat} (T : ArrT t n) (hc : Try.prog.cellsOf t = n) (hts : Try.prog.cellTypes Try.prog.depth t = some (List.replicate n 5)) {W : World} {base : Nat} {v : Value}
    (h : Value.okWide Try.prog W .any base t v) : ∃ K : List Nat, v = .agg (vs .u8 K) ∧ K.length = n ∧ Ch.By K := by
  obtain ⟨e, hu⟩ := T.und
  simp only [Value.okWide, hu] at h
  obtain ⟨cs, rfl, hsz, ts, hts', _, hcell⟩ := h
  rw [hts] at hts'
  cases hts'
  obtain ⟨K, h1, h2, h3⟩ := bytes_of cs fun i v hv => by
    obtain ⟨u, hu, hk⟩ := hcell i v hv
    have : u = 5 := by
      rw [List.getElem?_replicate] at hu
      split at hu
      · exact (Option.some.inj hu).symm
      · cases hu
    subst this
    exact u8_ok hk
  exact ⟨K, by rw [← h1], by rw [h2, hsz, hc], h3⟩
theorem okKey {W : World} {base : Nat} {v : Value} (h : Value.okWide Try.prog W .any base 23 v) : ∃ K : List Nat, v = .agg (vs .u8 K) ∧ K.length = 32 ∧ Ch.By K := okArr t23 (by kernel_rfl) (by kernel_rfl) h
theorem okNonce {W : World} {base : Nat} {v : Value} (h : Value.okWide Try.prog W .any base 24 v) : ∃ K : List Nat, v = .agg (vs .u8 K) ∧ K.length = 12 ∧ Ch.By K := okArr t24 (by kernel_rfl) (by kernel_rfl) h
end Go.Proofs.Ytaafcddcglngeaa
