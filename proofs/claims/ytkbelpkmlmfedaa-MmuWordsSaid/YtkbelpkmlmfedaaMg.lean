/-
  THE WALKS of what the laws of memory ask first: the example, whether frames are too many.
-/
import Derived.Test.YtkbelpkmlmfedaaMl
import Derived.Laws.Tables
import Derived.Deep.WholeRow
namespace Go.Proofs.Ytkbelpkmlmfedaa
set_option linter.unusedVariables false
set_option maxRecDepth 100000
set_option linter.unusedSimpArgs false
open Go.RowKit
namespace Mo
open _root_.Go.Proofs.Ytkbelpkmlmfedaa.Nm _root_.Go.Proofs.Ytkbelpkmlmfedaa.Xe
def GreatIs (l : List ByteArray) (e : Ending) : Prop := e = .returned (.int .i64 1) ∨ e = .returned (.int .i64 0) ∧ bulk l ≤ 5000
theorem great_any (A : Option Addr) (len cap : Nat) (l : List ByteArray) (w : World) (hl : Ts w A len l) (hm : len ≤ 9223372036854775807) (hb : ∀ k, (nth l k).size ≤ 4611686018427387904) :
    Calls Try.prog 30 #[.slice A len cap] w fun e w' => GreatIs l e ∧ w = w' := by
  have H1 := Lib.hid hl.1
  have HB := Lib.hid hb
  clear hb
  go_enter Try.func30, Try.ntmps30
  go_wp2_with fail
  go_loop [3, 5, 8] (fun z _ i => ∃ k : Nat, k ≤ len ∧ i = .int .i64 k ∧ z = .int .i64 (bulk (l.take k) : Nat) ∧ bulk (l.take k) ≤ 5000) (fun _ _ i => len - (intOf i).toNat)
  case atStart => exact ⟨0, Nat.zero_le _, rfl, rfl, by simp [bulk]⟩
  case round =>
    obtain ⟨k, hk, rfl, rfl, hz⟩ := hrel
    by_cases hlt : k < len
    · obtain ⟨b, off, rfl, hc⟩ := hl.2 (by omega)
      have c1 := hc k hlt
      have r2 := bulk_take l k (by have := H1.out; omega)
      have sz := HB.out k
      have R2 := Lib.hid r2
      clear hc r2
      by_cases hg : 5000 < bulk (l.take k) + ((nth l k).size + 1)
      · have hg' : (5000 : Int) < (bulk (l.take k) : Int) + (((nth l k).size : Int) + 1) := by omega
        go_wp2_with fail
        go_ret
        exact ⟨.inl rfl, rfl⟩
      · have hg' : (bulk (l.take k) : Int) + (((nth l k).size : Int) + 1) ≤ 5000 := by omega
        go_wp2_with fail
        go_round
        case rel => exact ⟨k + 1, by omega, by go_num, by rw [R2.out]; go_num, by rw [R2.out]; omega⟩
        case measure => simp [intOf]; omega
    · obtain rfl : k = len := by omega
      have hz2 : l.take k = l := List.take_of_length_le (by have := H1.out; omega)
      rw [hz2] at hz
      clear hz2
      go_wp2_with fail
      go_ret
      exact ⟨.inr ⟨rfl, hz⟩, rfl⟩
/-- the example's space -/
def s0 : Mm.Sp := ⟨false, false, 0⟩ :: ⟨true, false, 0⟩ :: List.replicate 14 ⟨false, false, 0⟩
theorem s0_ok : SpOk s0 := by
  have h : ∀ i, (Mm.pt s0 i).f = 0 := by
    intro i
    by_cases k : i < 16
    · have d : ∀ i, i < 16 → (Mm.pt s0 i).f = 0 := by decide
      exact d i k
    · unfold Mm.pt
      rw [List.getD_eq_getElem?_getD, List.getElem?_eq_none (by show 16 ≤ i; omega)]
      rfl
  exact ⟨rfl, fun i => by rw [h i]; decide, fun i => by rw [h i]; decide⟩
def t0 : ByteArray := ⟨#[97]⟩ ++ ⟨(Lib.repeatL (⟨#[98]⟩ : ByteArray).data.toList 127).toArray⟩
theorem t0_toL : toL t0 = 97 :: List.replicate 127 98 := by
  unfold t0
  rw [toL_app']
  decide +kernel
theorem t0_size : t0.size = 128 := by rw [← toL_length, t0_toL]; rfl
theorem t0_load : Mm.loadM (fs [t0]) s0 128 1 = some 97 := by
  show Mm.loadM [toL t0] s0 128 1 = _
  rw [t0_toL]
  decide +kernel
theorem t0_copy : Mm.copyM (fs [t0]) s0 127 2 = none := by
  show Mm.copyM [toL t0] s0 127 2 = _
  rw [t0_toL]
  decide +kernel
theorem s0_one : (sc s0).all (·.oneCell') = true := by
  rw [Array.all_eq_true_iff_forall_mem]
  intro v hv
  have hv' : v ∈ sl s0 := by simpa [sc] using hv
  unfold sl at hv'
  obtain ⟨p, _, h⟩ := List.mem_flatMap.1 hv'
  unfold pv at h
  simp only [List.mem_cons, List.not_mem_nil, or_false] at h
  rcases h with rfl | rfl | rfl <;> rfl
/-- the space is laid into its fresh box whole -/
theorem sto57 {ops : Array Oper} {rest : List Oper} {o : Oper} {a : Act} {w : World} {c : Array Value} {Q : Exit → Act → World → Prop} {x y : Operand} {g : Nat}
    (hgd : o.guard = none) (ho : o.op = .store 57 x y) (hx : a.eval x = .pointer (some ⟨g, 0, none⟩)) (hg : g = w.heap.size) (hy : a.eval y = .agg (sc s0)) (hc : c.size = 48)
    (h : wpList Try.prog ops Q rest (a.put o.dst undef) (w.alloc (.cells (sc s0) 57))) : wpList Try.prog ops Q (o :: rest) a (w.alloc (.cells c 57)) := by
  subst hg
  exact wpList_store_row hgd 57 x y ho w.heap.size (sc s0) hx hy 57 c (Own.new w 57 c) (by rw [info57]; rfl) (by rw [hc]; rfl) s0_one (by rw [World.setRow_alloc_new]; exact h)
set_option maxHeartbeats 1000000 in
theorem alive_any (w : World) : Calls Try.prog 29 #[] w fun e w' => e = .returned (.bool true) ∧ Below w.heap.size w w' := by
  go_enter Try.func29, Try.ntmps29
  go_wp2_with fail
  refine (Try.strings_Repeat ⟨#[98]⟩ 127 w (by decide) (by decide)).mono ?_
  rintro e w1 ⟨rfl, hx1⟩
  have z0 := t0_size
  unfold t0 at z0
  rw [ByteArray.size_append] at z0
  have HT := Lib.hid (show (⟨#[97]⟩ : ByteArray) ++ ⟨(Lib.repeatL (⟨#[98]⟩ : ByteArray).data.toList 127).toArray⟩ = t0 from rfl)
  generalize (⟨(Lib.repeatL (⟨#[98]⟩ : ByteArray).data.toList 127).toArray⟩ : ByteArray) = R at *
  have y1 : ¬ 9223372036854775807 < 1 + R.size := by
    have : (⟨#[97]⟩ : ByteArray).size = 1 := rfl
    omega
  have hb2 : Below w.heap.size w ((w1.alloc (Obj.cells #[.string ((⟨#[97]⟩ : ByteArray) ++ R)] 9)).alloc (Obj.cells (sc s0) 57)) := (hx1.alloc hx1.size _).alloc (by have := hx1.size; simp; omega) _
  have o2 : Own ((w1.alloc (Obj.cells #[.string ((⟨#[97]⟩ : ByteArray) ++ R)] 9)).alloc (Obj.cells (sc s0) 57)) (w1.heap.size + 1) 57 (sc s0) := by
    have := Own.new (w1.alloc (Obj.cells #[.string ((⟨#[97]⟩ : ByteArray) ++ R)] 9)) 57 (sc s0)
    rwa [show (w1.alloc (Obj.cells #[.string ((⟨#[97]⟩ : ByteArray) ++ R)] 9)).heap.size = w1.heap.size + 1 from by simp] at this
  have c1 := ((Own.new w1 9 #[.string ((⟨#[97]⟩ : ByteArray) ++ R)]).alloc (Obj.cells (sc s0) 57)).cell 0
  have ht : Tz ((w1.alloc (Obj.cells #[.string ((⟨#[97]⟩ : ByteArray) ++ R)] 9)).alloc (Obj.cells (sc s0) 57)) (some ⟨w1.heap.size, 0, none⟩) 1 1 [t0] := by
    rw [HT.out] at c1 ⊢
    refine ⟨⟨rfl, fun _ => ⟨w1.heap.size, 0, rfl, fun i hi => ?_⟩⟩, (fun h => by cases h), by decide⟩
    obtain rfl : i = 0 := by omega
    exact c1
  have hld := load_any (some ⟨w1.heap.size, 0, none⟩) 1 1 [t0] s0 s0_ok 128 1 _ ht (by decide) (by decide) (by decide)
  have hcp := fun wr (hh : Tz wr (some ⟨w1.heap.size, 0, none⟩) 1 1 [t0]) => copy_any (some ⟨w1.heap.size, 0, none⟩) 1 1 [t0] s0 s0_ok 127 2 wr hh (by decide) (by decide) (by decide)
  unfold LoadIs at hld
  unfold CopyIs at hcp
  rw [t0_load] at hld
  rw [t0_copy] at hcp
  simp only [Option.getD_some, Option.isSome_some] at hld
  simp only [Option.getD_none, Option.isSome_none] at hcp
  clear z0 HT c1 hx1
  go_wp2_with (first | (refine sto57 rfl rfl rfl (by simp) rfl rfl ?_) | (refine ls rfl rfl rfl s0_ok o2 ?_))
  refine hld.mono ?_
  rintro e w3 ⟨rfl, hx3⟩
  have o3 : Own w3 (w1.heap.size + 1) 57 (sc s0) := (hx3.block _ o2.lt).trans o2
  have ht3 := ht.below hx3
  have hb3 := hb2.trans (hx3.mono hb2.size)
  clear hld o2 ht hb2 hx3
  go_wp2_with (refine ls rfl rfl rfl s0_ok o3 ?_)
  refine (hcp _ ht3).mono ?_
  rintro e w4 ⟨rfl, hx4⟩
  have hb4 := hb3.trans (hx4.mono hb3.size)
  clear hcp o3 ht3
  go_wp2_with fail
  go_ret
  exact ⟨rfl, hb4⟩
end Mo
end Go.Proofs.Ytkbelpkmlmfedaa
