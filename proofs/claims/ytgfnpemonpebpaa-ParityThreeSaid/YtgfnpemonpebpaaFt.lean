/-
  THE WALK of the code's first three parts with unlike numbers.
-/
import Derived.Test.YtgfnpemonpebpaaLk
import Derived.StillTailTactics
namespace Go.Proofs.Ytgfnpemonpebpaa
open Go.RowKit
set_option linter.unusedVariables false
set_option linter.unusedSimpArgs false
/-- a slice of parts that came in, or was made -/
def Ps (w : World) (A : Option Addr) (l : List (Int × ByteArray)) : Prop := 0 < l.length → ∃ b o, A = some ⟨b, o, none⟩ ∧ Pl w b o l
theorem Ps.below {w w' : World} {A : Option Addr} {l : List (Int × ByteArray)} (h : Ps w A l) (hb : Below w.heap.size w w') : Ps w' A l := fun h0 => by
  obtain ⟨b, o, e, p⟩ := h h0
  exact ⟨b, o, e, p.below hb⟩
/-- is a part of that number among some? -/
def met (acc : List (Int × ByteArray)) (I : Int) : Bool := acc.any fun p => p.1 == I
/-- the first three with unlike numbers, and why they are not there -/
def pick (n : Nat) : List (Int × ByteArray) → List (Int × ByteArray) → List (Int × ByteArray) × Nat
  | acc, [] => (acc, if acc.length < 3 then 4 else 0)
  | acc, p :: t => if acc.length = 3 then (acc, 0) else if p.1 < 1 ∨ 5 < p.1 then (acc, 1) else if met acc p.1 = true then pick n acc t else if p.2.size ≠ n then (acc, 3) else pick n (acc ++ [p]) t
def xsv (acc : List (Int × ByteArray)) : List Nat := acc.map (fun p => p.1.toNat) ++ List.replicate (3 - acc.length) 0
def rwv (acc : List (Int × ByteArray)) : List ByteArray := acc.map (fun p => p.2) ++ List.replicate (3 - acc.length) ⟨#[]⟩
def rws (acc : List (Int × ByteArray)) : Array Value := ((rwv acc).map Value.string).toArray
def mts (acc : List (Int × ByteArray)) : Array Value := ((List.range 6).map fun (j : Nat) => Value.bool (met acc (j : Int))).toArray
theorem xsv_length {acc : List (Int × ByteArray)} (h : acc.length ≤ 3) : (xsv acc).length = 3 := by simp [xsv]; omega
theorem rwv_length {acc : List (Int × ByteArray)} (h : acc.length ≤ 3) : (rwv acc).length = 3 := by simp [rwv]; omega
theorem pad_set {α : Type} (A : List α) (z b : α) (n : Nat) (h : A.length < n) : (A ++ List.replicate (n - A.length) z).set A.length b = (A ++ [b]) ++ List.replicate (n - (A ++ [b]).length) z := by
  obtain ⟨k, hk⟩ : ∃ k, n - A.length = k + 1 := ⟨n - A.length - 1, by omega⟩
  rw [List.set_append_right _ _ (Nat.le_refl _), Nat.sub_self, hk, List.replicate_succ, List.set_cons_zero, List.length_append, List.length_singleton, show n - (A.length + 1) = k from by omega, List.append_assoc]
  rfl
theorem xsv_set (acc : List (Int × ByteArray)) (p : Int × ByteArray) (h : acc.length < 3) : (xsv acc).set acc.length p.1.toNat = xsv (acc ++ [p]) := by
  have := pad_set (acc.map fun (p : Int × ByteArray) => p.1.toNat) 0 p.1.toNat 3 (by simpa using h)
  simpa [xsv] using this
theorem rwv_set (acc : List (Int × ByteArray)) (p : Int × ByteArray) (h : acc.length < 3) : (rwv acc).set acc.length p.2 = rwv (acc ++ [p]) := by
  have := pad_set (acc.map fun (p : Int × ByteArray) => p.2) ⟨#[]⟩ p.2 3 (by simpa using h)
  simpa [rwv] using this
theorem rws_set (acc : List (Int × ByteArray)) (p : Int × ByteArray) (h : acc.length < 3) : (rws acc).setIfInBounds acc.length (.string p.2) = rws (acc ++ [p]) := by
  rw [rws, rws, ← rwv_set acc p h, List.setIfInBounds_toArray, List.map_set]
theorem mts_get (acc : List (Int × ByteArray)) {j : Nat} (h : j < 6) : (mts acc)[j]? = some (.bool (met acc (j : Int))) := by simp [mts, h]
theorem mts_set (acc : List (Int × ByteArray)) (p : Int × ByteArray) {j : Nat} (h : j < 6) (hp : p.1 = (j : Int)) : (mts acc).setIfInBounds j (.bool true) = mts (acc ++ [p]) := by
  apply Array.ext_getElem?
  intro i
  rw [Array.getElem?_setIfInBounds]
  by_cases hi : i < 6
  · rw [mts_get _ hi, mts_get _ hi]
    by_cases hij : j = i
    · subst hij
      simp [mts, hi, met, hp]
    · rw [if_neg hij]
      congr 1
      simp only [met, List.any_append, List.any_cons, List.any_nil, Bool.or_false, hp]
      rw [show (((j : Nat) : Int) == ((i : Nat) : Int)) = false from by rw [beq_eq_false_iff_ne]; omega, Bool.or_false]
  · have s1 : (mts acc).size = 6 := by simp [mts]
    have s2 : (mts (acc ++ [p])).size = 6 := by simp [mts]
    rw [if_neg (by omega), Array.getElem?_eq_none (by omega), Array.getElem?_eq_none (by omega)]
theorem rws_get {acc : List (Int × ByteArray)} (h : acc.length ≤ 3) {i : Nat} (hi : i < 3) : ∃ s, (rws acc)[i]? = some (.string s) ∧ (rwv acc)[i]? = some s := by
  have hl := rwv_length h
  exact ⟨(rwv acc)[i]'(by omega), by simp [rws, hl, hi], List.getElem?_eq_getElem _⟩
theorem rws_size {acc : List (Int × ByteArray)} (h : acc.length ≤ 3) : (rws acc).size = 3 := by simp [rws, rwv_length h]
theorem rws_one (acc : List (Int × ByteArray)) : (rws acc).all (·.oneCell') = true := by
  simp only [rws, List.all_toArray, List.all_eq_true, List.mem_map]
  rintro x ⟨y, _, rfl⟩
  rfl
theorem yld49 {ops : Array Oper} {S : World → Prop} {op : Oper} {a : Act} (hw : Region.wanted op (yielded ops a.tmps) = true) {x : Operand} (ho : op.op = .load 49 x)
    {b : Nat} {t : TypeId} (hx : a.eval x = .pointer (some ⟨b, 0, none⟩)) (c : Array Value) (hS : ∀ w, S w → Own w b t c) (hl : c.size = 3) : YieldsIf Try.prog ops S op (.agg c) a :=
  yieldsIf_load_mid hw 49 x ho b 0 hx c.toList _ (fun w h j v hj => by
    have := (hS w h).cell j
    rw [Nat.zero_add, this]
    simpa using hj) Try.underlying49 (by kernel_rfl) (by rw [Array.length_toList, hl]; kernel_rfl)
theorem ret21 {a : Act} {w : World} {G : Nat} {X : List Nat} {R : Array Value} {c : Value} {Q : Ending → World → Prop} (h4 : a.tmps.getD 4 undef = .pointer (some ⟨G, 0, none⟩)) (h5 : a.tmps.getD 5 undef = .pointer (some ⟨G + 1, 0, none⟩)) (h6 : a.tmps.getD 6 undef = c)
    (o0 : Own w G 34 (vs X)) (lX : X.length = 3) (o1 : Own w (G + 1) 49 R) (hR : R.size = 3) (hd : a.defers = []) (hQ : Q (.returned (.tuple #[.agg (vs X), .agg R, c])) w) : bodyPost Try.prog Try.f21 Q .ret a w := by
  refine bodyPost_ret (v := .tuple #[.agg (vs X), .agg R, c]) ?_ hd hQ
  have h4' : a.tmps[4]?.getD undef = .pointer (some ⟨G, 0, none⟩) := by simpa using h4
  have h5' : a.tmps[5]?.getD undef = .pointer (some ⟨G + 1, 0, none⟩) := by simpa using h5
  have h6' : a.tmps[6]?.getD undef = c := by simpa using h6
  have q0 := run_loadVar_row (P := Try.prog) w G 34 34 (vs X) (0, 0) _ o0 Try.underlying34 rfl (by rw [t34.siz, vs_size, lX])
  have q1 := run_loadVar_row (P := Try.prog) w (G + 1) 49 49 R (0, 0) _ o1 Try.underlying49 rfl (by rw [hR]; kernel_rfl)
  simp [results, Try.results21, h4', h5', h6', asAddr, q0, q1]
set_option maxRecDepth 100000 in
set_option maxHeartbeats 4000000 in
theorem first_any (A : Option Addr) (m cap n : Nat) (l : List (Int × ByteArray)) (w : World) (hm : l.length = m) (hmx : m ≤ 100000) (hl : Ps w A l) :
    Calls Try.prog 21 #[.slice A m cap, .int .i64 (n : Int)] w fun e w' => e = .returned (.tuple #[.agg (vs (xsv (pick n [] l).1)), .agg (rws (pick n [] l).1), .int .i64 ((pick n [] l).2 : Nat)]) ∧ Below w.heap.size w w' := by
  generalize hR : pick n [] l = R at *
  obtain ⟨W0, hW0⟩ : ∃ W0, W0 = ((((w.alloc (Obj.cells (vs (zs 3)) 34)).alloc (Obj.cells #[.string ⟨#[]⟩, .string ⟨#[]⟩, .string ⟨#[]⟩] 49)).alloc (Obj.cells (vs (zs 3)) 34)).alloc (Obj.cells #[.string ⟨#[]⟩, .string ⟨#[]⟩, .string ⟨#[]⟩] 49)).alloc (Obj.cells #[.bool false, .bool false, .bool false, .bool false, .bool false, .bool false] 61) := ⟨_, rfl⟩
  have o0 : Own W0 w.heap.size 34 (vs (zs 3)) := by rw [hW0]; exact ((((Own.new w 34 (vs (zs 3))).alloc _).alloc _).alloc _).alloc _
  have o1 : Own W0 (w.heap.size + 1) 49 #[.string ⟨#[]⟩, .string ⟨#[]⟩, .string ⟨#[]⟩] := by rw [hW0]; exact (((Own.new' _ 49 _ (by simp)).alloc _).alloc _).alloc _
  have o2 : Own W0 (w.heap.size + 2) 34 (vs (xsv [])) := by rw [hW0]; exact ((Own.new' _ 34 (vs (xsv [])) (by simp)).alloc _).alloc _
  have o3 : Own W0 (w.heap.size + 3) 49 (rws []) := by rw [hW0]; exact (Own.new' _ 49 (rws []) (by simp)).alloc _
  have o4 : Own W0 (w.heap.size + 4) 61 (mts []) := by rw [hW0]; exact Own.new' _ 61 (mts []) (by simp)
  have bW : Below w.heap.size w W0 := by rw [hW0]; exact (((((Below.refl _ w).alloc (by simp) _).alloc (by simp) _).alloc (by simp; omega) _).alloc (by simp; omega) _).alloc (by simp; omega) _
  have hs0 : W0.heap.size = w.heap.size + 5 := by rw [hW0]; simp
  have HW0 := Lib.hid hW0
  clear hW0
  go_enter Try.func21, Try.ntmps21
  go_wp2_with (refine alz z34 rfl rfl ?_)
  rw [← HW0.out]
  clear HW0
  generalize hG : w.heap.size = G at *
  have HG := Lib.hid hG
  clear hG
  have hr0 : pick n [] (l.drop 0) = R := by rw [List.drop_zero]; exact hR
  have hl0 : Ps W0 A l := fun h0 => by
    obtain ⟨b, o, e, p⟩ := hl h0
    have hb : b < w.heap.size := World.block_lt_of_cell? w _ (p 0 _ (List.getElem?_eq_getElem h0)).1
    exact ⟨b, o, e, p.belowB bW (by have := HG.out; omega)⟩
  have HL := Lib.hid hl
  clear hR hl
  go_loopw [10, 15] (fun c i wr => ∃ (k : Nat) (acc : List (Int × ByteArray)), k ≤ m ∧ i = .int .i64 (k : Int) ∧ c = .int .i64 (acc.length : Int) ∧ acc.length ≤ 3 ∧ pick n acc (l.drop k) = R ∧ Own wr G 34 (vs (zs 3)) ∧ Own wr (G + 1) 49 #[.string ⟨#[]⟩, .string ⟨#[]⟩, .string ⟨#[]⟩] ∧ Own wr (G + 2) 34 (vs (xsv acc)) ∧ Own wr (G + 3) 49 (rws acc) ∧ Own wr (G + 4) 61 (mts acc) ∧ Below G w wr) (fun _ i _ => m - (intOf i).toNat)
  case atStart => exact ⟨0, [], by omega, rfl, rfl, by simp, hr0, o0, o1, o2, o3, o4, bW⟩
  case round =>
    clear o0 o1 o2 o3 o4 bW hr0 hl0
    obtain ⟨k, acc, hk, rfl, rfl, ha3, hr, o0, o1, o2, o3, o4, bW⟩ := hrel
    have lx := xsv_length ha3
    have gP5 : G + 4 < wr.heap.size := o4.lt
    by_cases hkm : k < m
    · have k0 : (k : Int) < (m : Int) := by omega
      have ek : IntKind.i64.wrap ((k : Int) + 1) = (k : Int) + 1 := IntWalk.i64_in _ (by omega)
      obtain ⟨b, o, rfl, hp⟩ := HL.out (by omega)
      obtain ⟨p, hpk⟩ : ∃ p, l[k]? = some p := ⟨l[k]'(by omega), List.getElem?_eq_getElem _⟩
      have hb : b < w.heap.size := World.block_lt_of_cell? w _ (hp k p hpk).1
      have hpB := (hp.belowB bW (by have := HG.out; omega)) k p hpk
      have dr : l.drop k = p :: l.drop (k + 1) := by
        have hk' : k < l.length := by omega
        rw [List.drop_eq_getElem_cons hk']
        rw [List.getElem?_eq_getElem hk'] at hpk
        rw [Option.some.inj hpk]
      rw [dr, pick] at hr
      obtain ⟨c1, c2⟩ := hpB
      obtain ⟨I, S⟩ := p
      simp only at c1 c2 hr
      have kA : Below wr.heap.size wr (wr.alloc (Obj.cells #[.int .i64 I, .string S] 29)) := (Below.refl _ wr).alloc (Nat.le_refl _) _
      have hsz := bW.size
      replace o0 := o0.below kA
      replace o1 := o1.below kA
      replace o2 := o2.below kA
      replace o3 := o3.below kA
      replace o4 := o4.below kA
      replace bW := bW.trans (kA.mono (by have := HG.out; omega))
      have x0 := o2.cellb (i := 0) (by omega)
      have x1 := o2.cellb (i := 1) (by omega)
      have x2 := o2.cellb (i := 2) (by omega)
      obtain ⟨s0, t0, u0⟩ := rws_get ha3 (i := 0) (by omega)
      obtain ⟨s1, t1, u1⟩ := rws_get ha3 (i := 1) (by omega)
      obtain ⟨s2, t2, u2⟩ := rws_get ha3 (i := 2) (by omega)
      have y0 := (o3.cell 0).trans t0
      have y1 := (o3.cell 1).trans t1
      have y2 := (o3.cell 2).trans t2
      have HX := Lib.hid (And.intro hpk (And.intro dr (And.intro t0 (And.intro t1 t2))))
      clear hpk dr t0 t1 t2 u0 u1 u2 hp kA
      by_cases h3 : acc.length = 3
      · have q3 : ((acc.length : Int) == 3) = true := by rw [h3]; rfl
        have q4 : ¬ ((acc.length : Int) < 3) := by omega
        rw [if_pos h3] at hr
        clear h3
        go_wp2_with fail
        replace o0 := o0.drew
        replace o1 := o1.drew
        replace o2 := o2.drew
        replace o3 := o3.drew
        replace bW := bW.drew
        refine wp_region_held_drew (S := fun w' => Below G (wr.alloc (Obj.cells #[.int .i64 I, .string S] 29)).drew w' ∧ w'.heap[G + 2]? = (wr.alloc (Obj.cells #[.int .i64 I, .string S] 29)).drew.heap[G + 2]? ∧ w'.heap[G + 3]? = (wr.alloc (Obj.cells #[.int .i64 I, .string S] 29)).drew.heap[G + 3]?) (by kernel_rfl) ⟨Below.refl _ _, rfl, rfl⟩ (fun hH => ?_)
        generalize (wr.alloc (Obj.cells #[.int .i64 I, .string S] 29)).drew = x9 at *
        refine tkH (i := 0) rfl (by kernel_rfl) (by kernel_rfl) (by kernel_rfl) (fun _ _ _ h => h) hH (yload t34 (by rfl) rfl rfl (xsv acc) (fun w h => (o2.kept h.2.1).rg) lx) ?_
        try simp only [Act.put, List.setIfInBounds_toArray, List.set_cons_zero, List.set_cons_succ]
        refine tkH (i := 1) rfl (by kernel_rfl) (by kernel_rfl) (by kernel_rfl) (fun _ _ _ h => h) hH (yld49 (by rfl) rfl rfl (rws acc) (fun w h => o3.kept h.2.2) (rws_size ha3)) ?_
        try simp only [Act.put, List.setIfInBounds_toArray, List.set_cons_zero, List.set_cons_succ]
        refine efH (i := 2) rfl (by kernel_rfl) (by rfl) (fun KK hKK => ?_)
        refine wp_store_row 34 _ _ rfl G (vs (xsv acc)) rfl rfl 34 (vs (zs 3)) o0 (by rw [t34.siz, vs_size, lx]) (by rw [vs_size, vs_size, zs_length, lx]) (vs_one _) ?_
        refine hKK.out _ _ ⟨below_row hH.1 (Nat.le_refl _) _, (heap_setRow _ _ _ _ (by omega)).trans hH.2.1, (heap_setRow _ _ _ _ (by omega)).trans hH.2.2⟩ (fun hH => ?_)
        clear hKK KK
        replace o1 := o1.rowOther G (vs (xsv acc)) (by omega)
        replace o0 := o0.row (vs (xsv acc))
        generalize x9.setRow G (vs (xsv acc)) = y9 at *
        try simp only [Act.put, List.setIfInBounds_toArray, List.set_cons_zero, List.set_cons_succ]
        refine efH (i := 3) rfl (by kernel_rfl) (by rfl) (fun KK hKK => ?_)
        refine wp_store_row 49 _ _ rfl (G + 1) (rws acc) rfl rfl 49 _ o1 (by rw [rws_size ha3]; kernel_rfl) (by rw [rws_size ha3]; rfl) (rws_one _) ?_
        refine hKK.out _ _ ⟨below_row hH.1 (by omega) _, (heap_setRow _ _ _ _ (by omega)).trans hH.2.1, (heap_setRow _ _ _ _ (by omega)).trans hH.2.2⟩ (fun hH => ?_)
        clear hKK KK
        replace o0 := o0.rowOther (G + 1) (rws acc) (by omega)
        replace o1 := o1.row (rws acc)
        generalize y9.setRow (G + 1) (rws acc) = z9 at *
        try simp only [Act.put, List.setIfInBounds_toArray, List.set_cons_zero, List.set_cons_succ]
        refine tkH (v := ?_) (i := 4) rfl (by kernel_rfl) (by kernel_rfl) (by kernel_rfl) (fun _ _ _ h => h) hH (Or.inl ⟨by rfl, ?_⟩) ?_
        rotate_left
        · intro wq hq
          go_simp
          try rfl
        try simp only [Act.put, List.setIfInBounds_toArray, List.set_cons_zero, List.set_cons_succ]
        refine wpAnyH_done (by kernel_rfl) ?_ _
        try simp only [Act.put, List.getElem_toArray, List.getElem_cons_zero, List.getElem_cons_succ, List.setIfInBounds_toArray, List.set_cons_zero, List.set_cons_succ]
        replace bW := bW.trans (hH.1.mono (by omega))
        clear hH
        go_wp2_with fail
        refine ret21 rfl rfl rfl o0 lx o1 (rws_size ha3) rfl ⟨?_, by rw [HG.out]; exact bW⟩
        rw [← hr]; rfl
      · have q3 : ((acc.length : Int) == 3) = false := by rw [beq_eq_false_iff_ne]; omega
        rw [if_neg h3] at hr
        by_cases hI1 : I < 1
        · rw [if_pos (Or.inl hI1)] at hr
          go_wp2_with fail
          replace o0 := o0.drew
          replace o1 := o1.drew
          replace o2 := o2.drew
          replace o3 := o3.drew
          replace bW := bW.drew
          refine wp_region_held_drew (S := fun w' => Below G (wr.alloc (Obj.cells #[.int .i64 I, .string S] 29)).drew w' ∧ w'.heap[G + 2]? = (wr.alloc (Obj.cells #[.int .i64 I, .string S] 29)).drew.heap[G + 2]? ∧ w'.heap[G + 3]? = (wr.alloc (Obj.cells #[.int .i64 I, .string S] 29)).drew.heap[G + 3]?) (by kernel_rfl) ⟨Below.refl _ _, rfl, rfl⟩ (fun hH => ?_)
          generalize (wr.alloc (Obj.cells #[.int .i64 I, .string S] 29)).drew = x9 at *
          refine tkH (i := 0) rfl (by kernel_rfl) (by kernel_rfl) (by kernel_rfl) (fun _ _ _ h => h) hH (yload t34 (by rfl) rfl rfl (xsv acc) (fun w h => (o2.kept h.2.1).rg) lx) ?_
          try simp only [Act.put, List.setIfInBounds_toArray, List.set_cons_zero, List.set_cons_succ]
          refine tkH (i := 1) rfl (by kernel_rfl) (by kernel_rfl) (by kernel_rfl) (fun _ _ _ h => h) hH (yld49 (by rfl) rfl rfl (rws acc) (fun w h => o3.kept h.2.2) (rws_size ha3)) ?_
          try simp only [Act.put, List.setIfInBounds_toArray, List.set_cons_zero, List.set_cons_succ]
          refine efH (i := 2) rfl (by kernel_rfl) (by rfl) (fun KK hKK => ?_)
          refine wp_store_row 34 _ _ rfl G (vs (xsv acc)) rfl rfl 34 (vs (zs 3)) o0 (by rw [t34.siz, vs_size, lx]) (by rw [vs_size, vs_size, zs_length, lx]) (vs_one _) ?_
          refine hKK.out _ _ ⟨below_row hH.1 (Nat.le_refl _) _, (heap_setRow _ _ _ _ (by omega)).trans hH.2.1, (heap_setRow _ _ _ _ (by omega)).trans hH.2.2⟩ (fun hH => ?_)
          clear hKK KK
          replace o1 := o1.rowOther G (vs (xsv acc)) (by omega)
          replace o0 := o0.row (vs (xsv acc))
          generalize x9.setRow G (vs (xsv acc)) = y9 at *
          try simp only [Act.put, List.setIfInBounds_toArray, List.set_cons_zero, List.set_cons_succ]
          refine efH (i := 3) rfl (by kernel_rfl) (by rfl) (fun KK hKK => ?_)
          refine wp_store_row 49 _ _ rfl (G + 1) (rws acc) rfl rfl 49 _ o1 (by rw [rws_size ha3]; kernel_rfl) (by rw [rws_size ha3]; rfl) (rws_one _) ?_
          refine hKK.out _ _ ⟨below_row hH.1 (by omega) _, (heap_setRow _ _ _ _ (by omega)).trans hH.2.1, (heap_setRow _ _ _ _ (by omega)).trans hH.2.2⟩ (fun hH => ?_)
          clear hKK KK
          replace o0 := o0.rowOther (G + 1) (rws acc) (by omega)
          replace o1 := o1.row (rws acc)
          generalize y9.setRow (G + 1) (rws acc) = z9 at *
          try simp only [Act.put, List.setIfInBounds_toArray, List.set_cons_zero, List.set_cons_succ]
          refine tkH (v := ?_) (i := 4) rfl (by kernel_rfl) (by kernel_rfl) (by kernel_rfl) (fun _ _ _ h => h) hH (Or.inl ⟨by rfl, ?_⟩) ?_
          rotate_left
          · intro wq hq
            go_simp
            try rfl
          try simp only [Act.put, List.setIfInBounds_toArray, List.set_cons_zero, List.set_cons_succ]
          refine wpAnyH_done (by kernel_rfl) ?_ _
          try simp only [Act.put, List.getElem_toArray, List.getElem_cons_zero, List.getElem_cons_succ, List.setIfInBounds_toArray, List.set_cons_zero, List.set_cons_succ]
          replace bW := bW.trans (hH.1.mono (by omega))
          clear hH
          go_wp2_with fail
          refine ret21 rfl rfl rfl o0 lx o1 (rws_size ha3) rfl ⟨?_, by rw [HG.out]; exact bW⟩
          rw [← hr]; rfl
        · by_cases hI5 : 5 < I
          · rw [if_pos (Or.inr hI5)] at hr
            go_wp2_with fail
            replace o0 := o0.drew
            replace o1 := o1.drew
            replace o2 := o2.drew
            replace o3 := o3.drew
            replace bW := bW.drew
            refine wp_region_held_drew (S := fun w' => Below G (wr.alloc (Obj.cells #[.int .i64 I, .string S] 29)).drew w' ∧ w'.heap[G + 2]? = (wr.alloc (Obj.cells #[.int .i64 I, .string S] 29)).drew.heap[G + 2]? ∧ w'.heap[G + 3]? = (wr.alloc (Obj.cells #[.int .i64 I, .string S] 29)).drew.heap[G + 3]?) (by kernel_rfl) ⟨Below.refl _ _, rfl, rfl⟩ (fun hH => ?_)
            generalize (wr.alloc (Obj.cells #[.int .i64 I, .string S] 29)).drew = x9 at *
            refine tkH (i := 0) rfl (by kernel_rfl) (by kernel_rfl) (by kernel_rfl) (fun _ _ _ h => h) hH (yload t34 (by rfl) rfl rfl (xsv acc) (fun w h => (o2.kept h.2.1).rg) lx) ?_
            try simp only [Act.put, List.setIfInBounds_toArray, List.set_cons_zero, List.set_cons_succ]
            refine tkH (i := 1) rfl (by kernel_rfl) (by kernel_rfl) (by kernel_rfl) (fun _ _ _ h => h) hH (yld49 (by rfl) rfl rfl (rws acc) (fun w h => o3.kept h.2.2) (rws_size ha3)) ?_
            try simp only [Act.put, List.setIfInBounds_toArray, List.set_cons_zero, List.set_cons_succ]
            refine efH (i := 2) rfl (by kernel_rfl) (by rfl) (fun KK hKK => ?_)
            refine wp_store_row 34 _ _ rfl G (vs (xsv acc)) rfl rfl 34 (vs (zs 3)) o0 (by rw [t34.siz, vs_size, lx]) (by rw [vs_size, vs_size, zs_length, lx]) (vs_one _) ?_
            refine hKK.out _ _ ⟨below_row hH.1 (Nat.le_refl _) _, (heap_setRow _ _ _ _ (by omega)).trans hH.2.1, (heap_setRow _ _ _ _ (by omega)).trans hH.2.2⟩ (fun hH => ?_)
            clear hKK KK
            replace o1 := o1.rowOther G (vs (xsv acc)) (by omega)
            replace o0 := o0.row (vs (xsv acc))
            generalize x9.setRow G (vs (xsv acc)) = y9 at *
            try simp only [Act.put, List.setIfInBounds_toArray, List.set_cons_zero, List.set_cons_succ]
            refine efH (i := 3) rfl (by kernel_rfl) (by rfl) (fun KK hKK => ?_)
            refine wp_store_row 49 _ _ rfl (G + 1) (rws acc) rfl rfl 49 _ o1 (by rw [rws_size ha3]; kernel_rfl) (by rw [rws_size ha3]; rfl) (rws_one _) ?_
            refine hKK.out _ _ ⟨below_row hH.1 (by omega) _, (heap_setRow _ _ _ _ (by omega)).trans hH.2.1, (heap_setRow _ _ _ _ (by omega)).trans hH.2.2⟩ (fun hH => ?_)
            clear hKK KK
            replace o0 := o0.rowOther (G + 1) (rws acc) (by omega)
            replace o1 := o1.row (rws acc)
            generalize y9.setRow (G + 1) (rws acc) = z9 at *
            try simp only [Act.put, List.setIfInBounds_toArray, List.set_cons_zero, List.set_cons_succ]
            refine tkH (v := ?_) (i := 4) rfl (by kernel_rfl) (by kernel_rfl) (by kernel_rfl) (fun _ _ _ h => h) hH (Or.inl ⟨by rfl, ?_⟩) ?_
            rotate_left
            · intro wq hq
              go_simp
              try rfl
            try simp only [Act.put, List.setIfInBounds_toArray, List.set_cons_zero, List.set_cons_succ]
            refine wpAnyH_done (by kernel_rfl) ?_ _
            try simp only [Act.put, List.getElem_toArray, List.getElem_cons_zero, List.getElem_cons_succ, List.setIfInBounds_toArray, List.set_cons_zero, List.set_cons_succ]
            replace bW := bW.trans (hH.1.mono (by omega))
            clear hH
            go_wp2_with fail
            refine ret21 rfl rfl rfl o0 lx o1 (rws_size ha3) rfl ⟨?_, by rw [HG.out]; exact bW⟩
            rw [← hr]; rfl
          · rw [if_neg (by omega)] at hr
            obtain ⟨j, rfl⟩ : ∃ j : Nat, I = (j : Int) := ⟨I.toNat, by omega⟩
            have hj6 : j < 6 := by omega
            have c4 := o4.cell j
            rw [mts_get _ hj6] at c4
            have j0 : (j : Int) < 6 := by omega
            by_cases hme : met acc (j : Int) = true
            · rw [hme] at c4
              rw [if_pos hme] at hr
              clear hme
              go_wp2_with fail
              go_roundw
              case rel => exact ⟨k + 1, acc, by omega, by go_num, rfl, ha3, hr, o0, o1, o2, o3, o4, bW⟩
              case measure => first | (simp [intOf]; done) | (simp [intOf]; omega)
            · rw [if_neg hme] at hr
              rw [Bool.not_eq_true] at hme
              rw [hme] at c4
              clear hme
              by_cases hS : S.size = n
              · rw [if_neg (by rw [hS]; simp)] at hr
                have t1 : ((S.size : Int) != (n : Int)) = false := by rw [hS]; simp
                clear hS
                have oP := Own.new wr 29 #[.int .i64 (j : Int), .string S]
                have cl3 : (acc.length : Int) < 3 := by omega
                have cn3 : acc.length < 3 := by omega
                have ec : IntKind.i64.wrap ((acc.length : Int) + 1) = (acc.length : Int) + 1 := IntWalk.i64_in _ (by omega)
                have e8 : IntKind.u8.wrap (j : Int) = (j : Int) := by rw [IntKind.wrap_u8]; omega
                go_upto_region 11 with fail
                generalize wr.alloc (Obj.cells #[.int .i64 (j : Int), .string S] 29) = wq at *
                generalize wr.heap.size = gP at *
                have cp0 := oP.cell 0
                have cp1 := oP.cell 1
                simp only [List.getElem?_toArray, List.getElem?_cons_zero, List.getElem?_cons_succ] at cp0 cp1
                have f4 := o4.frozen j
                obtain ⟨y, hy⟩ : ∃ y, y = wq.setCell ⟨G + 4, j, none⟩ (.bool true) := ⟨_, rfl⟩
                have o0' : Own y G 34 (vs (zs 3)) := by rw [hy]; exact o0.other _ _ (by show G ≠ G + 4; omega)
                have o1' : Own y (G + 1) 49 #[.string ⟨#[]⟩, .string ⟨#[]⟩, .string ⟨#[]⟩] := by rw [hy]; exact o1.other _ _ (by show G + 1 ≠ G + 4; omega)
                have o2' : Own y (G + 2) 34 (vs (xsv acc)) := by rw [hy]; exact o2.other _ _ (by show G + 2 ≠ G + 4; omega)
                have o3' : Own y (G + 3) 49 (rws acc) := by rw [hy]; exact o3.other _ _ (by show G + 3 ≠ G + 4; omega)
                have o4' : Own y (G + 4) 61 (mts (acc ++ [((j : Int), S)])) := by rw [hy, ← mts_set acc ((j : Int), S) hj6 rfl]; exact o4.set j (.bool true)
                have oP' : Own y gP 29 #[.int .i64 (j : Int), .string S] := by rw [hy]; exact oP.other _ _ (by show gP ≠ G + 4; omega)
                have bY : Below G w y := by rw [hy]; exact bW.setCell (by show G ≤ G + 4; omega) _
                have HY := Lib.hid hy
                clear hy
                go_upto_region 15 with fail
                change Code.wp _ _ _ _ (wq.setCell ⟨G + 4, j, none⟩ (.bool true))
                rw [← HY.out]
                have c0' := oP'.cell 0
                have c1' := oP'.cell 1
                simp only [List.getElem?_toArray, List.getElem?_cons_zero, List.getElem?_cons_succ] at c0' c1'
                have f2 := o2'.frozen acc.length
                have v2 := o2'.cellb (i := acc.length) (by omega)
                have f3 := o3'.frozen acc.length
                obtain ⟨sc, tc, _⟩ := rws_get ha3 (i := acc.length) cn3
                have v3 := (o3'.cell acc.length).trans tc
                clear cp0 cp1 x0 x1 x2 y0 y1 y2 c4 f4 o0 o1 o2 o3 o4 oP c1 c2
                go_region
                have ne1 : ∀ a b : Nat, a ≠ b → ∀ (W : World) (t : TypeId) (c : Array Value) (i : Nat) (u : Value), Own W a t c → Own (W.setCell ⟨b, i, none⟩ u) a t c := fun a b h W t c i u o => o.other _ _ h
                have p0 := (ne1 G (G + 3) (by omega) _ _ _ acc.length (.string S) (ne1 G (G + 2) (by omega) _ _ _ acc.length (.int .u8 (j : Int)) o0')).drew
                have p1 := (ne1 (G + 1) (G + 3) (by omega) _ _ _ acc.length (.string S) (ne1 (G + 1) (G + 2) (by omega) _ _ _ acc.length (.int .u8 (j : Int)) o1')).drew
                have p2 := (ne1 (G + 2) (G + 3) (by omega) _ _ _ acc.length (.string S) (o2'.setb acc.length j)).drew
                have p3 := ((ne1 (G + 3) (G + 2) (by omega) _ _ _ acc.length (.int .u8 (j : Int)) o3').set acc.length (.string S)).drew
                have p4 := (ne1 (G + 4) (G + 3) (by omega) _ _ _ acc.length (.string S) (ne1 (G + 4) (G + 2) (by omega) _ _ _ acc.length (.int .u8 (j : Int)) o4')).drew
                have p5 := ((bY.setCell (p := ⟨G + 2, acc.length, none⟩) (by show G ≤ G + 2; omega) (.int .u8 (j : Int))).setCell (p := ⟨G + 3, acc.length, none⟩) (by show G ≤ G + 3; omega) (.string S)).drew
                have ex := xsv_set acc ((j : Int), S) cn3
                simp only [Int.toNat_natCast] at ex
                rw [ex] at p2
                rw [rws_set acc ((j : Int), S) cn3] at p3
                clear ne1 ex c0' c1' f2 v2 f3 v3
                go_wp2_with fail
                go_roundw
                case rel => exact ⟨k + 1, acc ++ [((j : Int), S)], by omega, by go_num, by simp, by simp; omega, hr, p0, p1, p2, p3, p4, p5⟩
                case measure => first | (simp [intOf]; done) | (simp [intOf]; omega)
              · rw [if_pos hS] at hr
                have t1 : ((S.size : Int) != (n : Int)) = true := by rw [bne_iff_ne]; omega
                clear hS
                go_wp2_with fail
                replace o0 := o0.drew
                replace o1 := o1.drew
                replace o2 := o2.drew
                replace o3 := o3.drew
                replace bW := bW.drew
                refine wp_region_held_drew (S := fun w' => Below G (wr.alloc (Obj.cells #[.int .i64 (j : Int), .string S] 29)).drew w' ∧ w'.heap[G + 2]? = (wr.alloc (Obj.cells #[.int .i64 (j : Int), .string S] 29)).drew.heap[G + 2]? ∧ w'.heap[G + 3]? = (wr.alloc (Obj.cells #[.int .i64 (j : Int), .string S] 29)).drew.heap[G + 3]?) (by kernel_rfl) ⟨Below.refl _ _, rfl, rfl⟩ (fun hH => ?_)
                generalize (wr.alloc (Obj.cells #[.int .i64 (j : Int), .string S] 29)).drew = x9 at *
                refine tkH (i := 0) rfl (by kernel_rfl) (by kernel_rfl) (by kernel_rfl) (fun _ _ _ h => h) hH (yload t34 (by rfl) rfl rfl (xsv acc) (fun w h => (o2.kept h.2.1).rg) lx) ?_
                try simp only [Act.put, List.setIfInBounds_toArray, List.set_cons_zero, List.set_cons_succ]
                refine tkH (i := 1) rfl (by kernel_rfl) (by kernel_rfl) (by kernel_rfl) (fun _ _ _ h => h) hH (yld49 (by rfl) rfl rfl (rws acc) (fun w h => o3.kept h.2.2) (rws_size ha3)) ?_
                try simp only [Act.put, List.setIfInBounds_toArray, List.set_cons_zero, List.set_cons_succ]
                refine efH (i := 2) rfl (by kernel_rfl) (by rfl) (fun KK hKK => ?_)
                refine wp_store_row 34 _ _ rfl G (vs (xsv acc)) rfl rfl 34 (vs (zs 3)) o0 (by rw [t34.siz, vs_size, lx]) (by rw [vs_size, vs_size, zs_length, lx]) (vs_one _) ?_
                refine hKK.out _ _ ⟨below_row hH.1 (Nat.le_refl _) _, (heap_setRow _ _ _ _ (by omega)).trans hH.2.1, (heap_setRow _ _ _ _ (by omega)).trans hH.2.2⟩ (fun hH => ?_)
                clear hKK KK
                replace o1 := o1.rowOther G (vs (xsv acc)) (by omega)
                replace o0 := o0.row (vs (xsv acc))
                generalize x9.setRow G (vs (xsv acc)) = y9 at *
                try simp only [Act.put, List.setIfInBounds_toArray, List.set_cons_zero, List.set_cons_succ]
                refine efH (i := 3) rfl (by kernel_rfl) (by rfl) (fun KK hKK => ?_)
                refine wp_store_row 49 _ _ rfl (G + 1) (rws acc) rfl rfl 49 _ o1 (by rw [rws_size ha3]; kernel_rfl) (by rw [rws_size ha3]; rfl) (rws_one _) ?_
                refine hKK.out _ _ ⟨below_row hH.1 (by omega) _, (heap_setRow _ _ _ _ (by omega)).trans hH.2.1, (heap_setRow _ _ _ _ (by omega)).trans hH.2.2⟩ (fun hH => ?_)
                clear hKK KK
                replace o0 := o0.rowOther (G + 1) (rws acc) (by omega)
                replace o1 := o1.row (rws acc)
                generalize y9.setRow (G + 1) (rws acc) = z9 at *
                try simp only [Act.put, List.setIfInBounds_toArray, List.set_cons_zero, List.set_cons_succ]
                refine tkH (v := ?_) (i := 4) rfl (by kernel_rfl) (by kernel_rfl) (by kernel_rfl) (fun _ _ _ h => h) hH (Or.inl ⟨by rfl, ?_⟩) ?_
                rotate_left
                · intro wq hq
                  go_simp
                  try rfl
                try simp only [Act.put, List.setIfInBounds_toArray, List.set_cons_zero, List.set_cons_succ]
                refine wpAnyH_done (by kernel_rfl) ?_ _
                try simp only [Act.put, List.getElem_toArray, List.getElem_cons_zero, List.getElem_cons_succ, List.setIfInBounds_toArray, List.set_cons_zero, List.set_cons_succ]
                replace bW := bW.trans (hH.1.mono (by omega))
                clear hH
                go_wp2_with fail
                refine ret21 rfl rfl rfl o0 lx o1 (rws_size ha3) rfl ⟨?_, by rw [HG.out]; exact bW⟩
                rw [← hr]; rfl
    · obtain rfl : k = m := by omega
      rw [List.drop_eq_nil_of_le (by omega), pick] at hr
      by_cases h3 : acc.length < 3
      · have q4 : (acc.length : Int) < 3 := by omega
        rw [if_pos h3] at hr
        clear h3
        go_wp2_with fail
        replace o0 := o0.drew
        replace o1 := o1.drew
        replace o2 := o2.drew
        replace o3 := o3.drew
        replace bW := bW.drew
        refine wp_region_held_drew (S := fun w' => Below G wr.drew w' ∧ w'.heap[G + 2]? = wr.drew.heap[G + 2]? ∧ w'.heap[G + 3]? = wr.drew.heap[G + 3]?) (by kernel_rfl) ⟨Below.refl _ _, rfl, rfl⟩ (fun hH => ?_)
        generalize wr.drew = x9 at *
        refine tkH (i := 0) rfl (by kernel_rfl) (by kernel_rfl) (by kernel_rfl) (fun _ _ _ h => h) hH (yload t34 (by rfl) rfl rfl (xsv acc) (fun w h => (o2.kept h.2.1).rg) lx) ?_
        try simp only [Act.put, List.setIfInBounds_toArray, List.set_cons_zero, List.set_cons_succ]
        refine tkH (i := 1) rfl (by kernel_rfl) (by kernel_rfl) (by kernel_rfl) (fun _ _ _ h => h) hH (yld49 (by rfl) rfl rfl (rws acc) (fun w h => o3.kept h.2.2) (rws_size ha3)) ?_
        try simp only [Act.put, List.setIfInBounds_toArray, List.set_cons_zero, List.set_cons_succ]
        refine efH (i := 2) rfl (by kernel_rfl) (by rfl) (fun KK hKK => ?_)
        refine wp_store_row 34 _ _ rfl G (vs (xsv acc)) rfl rfl 34 (vs (zs 3)) o0 (by rw [t34.siz, vs_size, lx]) (by rw [vs_size, vs_size, zs_length, lx]) (vs_one _) ?_
        refine hKK.out _ _ ⟨below_row hH.1 (Nat.le_refl _) _, (heap_setRow _ _ _ _ (by omega)).trans hH.2.1, (heap_setRow _ _ _ _ (by omega)).trans hH.2.2⟩ (fun hH => ?_)
        clear hKK KK
        replace o1 := o1.rowOther G (vs (xsv acc)) (by omega)
        replace o0 := o0.row (vs (xsv acc))
        generalize x9.setRow G (vs (xsv acc)) = y9 at *
        try simp only [Act.put, List.setIfInBounds_toArray, List.set_cons_zero, List.set_cons_succ]
        refine efH (i := 3) rfl (by kernel_rfl) (by rfl) (fun KK hKK => ?_)
        refine wp_store_row 49 _ _ rfl (G + 1) (rws acc) rfl rfl 49 _ o1 (by rw [rws_size ha3]; kernel_rfl) (by rw [rws_size ha3]; rfl) (rws_one _) ?_
        refine hKK.out _ _ ⟨below_row hH.1 (by omega) _, (heap_setRow _ _ _ _ (by omega)).trans hH.2.1, (heap_setRow _ _ _ _ (by omega)).trans hH.2.2⟩ (fun hH => ?_)
        clear hKK KK
        replace o0 := o0.rowOther (G + 1) (rws acc) (by omega)
        replace o1 := o1.row (rws acc)
        generalize y9.setRow (G + 1) (rws acc) = z9 at *
        try simp only [Act.put, List.setIfInBounds_toArray, List.set_cons_zero, List.set_cons_succ]
        refine tkH (v := ?_) (i := 4) rfl (by kernel_rfl) (by kernel_rfl) (by kernel_rfl) (fun _ _ _ h => h) hH (Or.inl ⟨by rfl, ?_⟩) ?_
        rotate_left
        · intro wq hq
          go_simp
          try rfl
        try simp only [Act.put, List.setIfInBounds_toArray, List.set_cons_zero, List.set_cons_succ]
        refine wpAnyH_done (by kernel_rfl) ?_ _
        try simp only [Act.put, List.getElem_toArray, List.getElem_cons_zero, List.getElem_cons_succ, List.setIfInBounds_toArray, List.set_cons_zero, List.set_cons_succ]
        replace bW := bW.trans (hH.1.mono (by omega))
        clear hH
        go_wp2_with fail
        refine ret21 rfl rfl rfl o0 lx o1 (rws_size ha3) rfl ⟨?_, by rw [HG.out]; exact bW⟩
        rw [← hr]; rfl
      · have q4 : ¬ (acc.length : Int) < 3 := by omega
        rw [if_neg h3] at hr
        clear h3
        go_wp2_with fail
        replace o0 := o0.drew
        replace o1 := o1.drew
        replace o2 := o2.drew
        replace o3 := o3.drew
        replace bW := bW.drew
        refine wp_region_held_drew (S := fun w' => Below G wr.drew w' ∧ w'.heap[G + 2]? = wr.drew.heap[G + 2]? ∧ w'.heap[G + 3]? = wr.drew.heap[G + 3]?) (by kernel_rfl) ⟨Below.refl _ _, rfl, rfl⟩ (fun hH => ?_)
        generalize wr.drew = x9 at *
        refine tkH (i := 0) rfl (by kernel_rfl) (by kernel_rfl) (by kernel_rfl) (fun _ _ _ h => h) hH (yload t34 (by rfl) rfl rfl (xsv acc) (fun w h => (o2.kept h.2.1).rg) lx) ?_
        try simp only [Act.put, List.setIfInBounds_toArray, List.set_cons_zero, List.set_cons_succ]
        refine tkH (i := 1) rfl (by kernel_rfl) (by kernel_rfl) (by kernel_rfl) (fun _ _ _ h => h) hH (yld49 (by rfl) rfl rfl (rws acc) (fun w h => o3.kept h.2.2) (rws_size ha3)) ?_
        try simp only [Act.put, List.setIfInBounds_toArray, List.set_cons_zero, List.set_cons_succ]
        refine efH (i := 2) rfl (by kernel_rfl) (by rfl) (fun KK hKK => ?_)
        refine wp_store_row 34 _ _ rfl G (vs (xsv acc)) rfl rfl 34 (vs (zs 3)) o0 (by rw [t34.siz, vs_size, lx]) (by rw [vs_size, vs_size, zs_length, lx]) (vs_one _) ?_
        refine hKK.out _ _ ⟨below_row hH.1 (Nat.le_refl _) _, (heap_setRow _ _ _ _ (by omega)).trans hH.2.1, (heap_setRow _ _ _ _ (by omega)).trans hH.2.2⟩ (fun hH => ?_)
        clear hKK KK
        replace o1 := o1.rowOther G (vs (xsv acc)) (by omega)
        replace o0 := o0.row (vs (xsv acc))
        generalize x9.setRow G (vs (xsv acc)) = y9 at *
        try simp only [Act.put, List.setIfInBounds_toArray, List.set_cons_zero, List.set_cons_succ]
        refine efH (i := 3) rfl (by kernel_rfl) (by rfl) (fun KK hKK => ?_)
        refine wp_store_row 49 _ _ rfl (G + 1) (rws acc) rfl rfl 49 _ o1 (by rw [rws_size ha3]; kernel_rfl) (by rw [rws_size ha3]; rfl) (rws_one _) ?_
        refine hKK.out _ _ ⟨below_row hH.1 (by omega) _, (heap_setRow _ _ _ _ (by omega)).trans hH.2.1, (heap_setRow _ _ _ _ (by omega)).trans hH.2.2⟩ (fun hH => ?_)
        clear hKK KK
        replace o0 := o0.rowOther (G + 1) (rws acc) (by omega)
        replace o1 := o1.row (rws acc)
        generalize y9.setRow (G + 1) (rws acc) = z9 at *
        try simp only [Act.put, List.setIfInBounds_toArray, List.set_cons_zero, List.set_cons_succ]
        refine tkH (v := ?_) (i := 4) rfl (by kernel_rfl) (by kernel_rfl) (by kernel_rfl) (fun _ _ _ h => h) hH (Or.inl ⟨by rfl, ?_⟩) ?_
        rotate_left
        · intro wq hq
          go_simp
          try rfl
        try simp only [Act.put, List.setIfInBounds_toArray, List.set_cons_zero, List.set_cons_succ]
        refine wpAnyH_done (by kernel_rfl) ?_ _
        try simp only [Act.put, List.getElem_toArray, List.getElem_cons_zero, List.getElem_cons_succ, List.setIfInBounds_toArray, List.set_cons_zero, List.set_cons_succ]
        replace bW := bW.trans (hH.1.mono (by omega))
        clear hH
        go_wp2_with fail
        refine ret21 rfl rfl rfl o0 lx o1 (rws_size ha3) rfl ⟨?_, by rw [HG.out]; exact bW⟩
        rw [← hr]; rfl
end Go.Proofs.Ytgfnpemonpebpaa
