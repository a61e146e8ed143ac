/-
  The laws' own examples.
-/
import Derived.Test.YtingpadjciohjaaRc
namespace Go.Proofs.Ytingpadjciohjaa
open Go.RowKit
open Nm
set_option linter.unusedVariables false
set_option linter.unusedSimpArgs false
theorem map_toL_inj {l l' : List ByteArray} (h : l.map toL = l'.map toL) : l = l' := by
  induction l generalizing l' with
  | nil => cases l' with
    | nil => rfl
    | cons a t => simp at h
  | cons a t ih => cases l' with
    | nil => simp at h
    | cons b u =>
      simp only [List.map_cons, List.cons.injEq] at h
      rw [toL_inj h.1, ih h.2]
theorem ts_new (w : World) (l : List ByteArray) (t : TypeId) : Ts (w.alloc (Obj.cells (l.map sv).toArray t)) (some ⟨w.heap.size, 0, none⟩) l.length l := by
  refine ⟨rfl, fun h => ⟨w.heap.size, 0, rfl, fun i hi => ?_⟩⟩
  rw [Nat.zero_add, (Own.new w t (l.map sv).toArray).cell i, nth_eq hi]
  simp [hi, sv]
theorem Ts.drew {w : World} {a : Option Addr} {n : Nat} {l : List ByteArray} (h : Ts w a n l) : Ts w.drew a n l := h.dr ⟨1, rfl⟩
def Al (w : World) : Prop := Calls Try.prog 9 #[] w fun e w' => e = .returned (.bool true) ∧ Below w.heap.size w w'
theorem ex1 : Ro.cut ⟨1, 1, 3, 0⟩ [97, 98, 99] = [[97], [98], [99]] := by decide +kernel
theorem ex2 : Ro.S [97, 98] = 6768861 := by decide +kernel
theorem ex3 : chk 0 0 0 = 2 := by decide +kernel
theorem ccz : cc 1 1 3 0 = #[.int .i64 1, .int .i64 1, .int .i64 3, .int .u32 0] := rfl
set_option maxRecDepth 100000 in
set_option maxHeartbeats 1000000 in
theorem alive_any (w : World) : Al w := by
  unfold Al
  have h1 := fun wr => cut_any ⟨#[97, 98, 99]⟩ ⟨1, 1, 3, 0⟩ (by unfold Ro.Cuts.Fit; decide) (by decide) (by decide) wr
  have h2 := fun wr => sum_any ⟨#[97, 98]⟩ wr (by decide)
  have h3 := fun wr => check_any 0 0 0 0 wr
  rw [show (⟨#[97, 98]⟩ : ByteArray).data.toList = [97, 98] from rfl, ex2] at h2
  rw [ex3] at h3
  go_enter Try.func9, Try.ntmps9
  go_wp2_with fail
  refine (h1 _).mono ?_
  rintro e w1 ⟨A, cap, l, rfl, hts, hl, hb, hcap⟩
  rw [show toL ⟨#[97, 98, 99]⟩ = [97, 98, 99] from rfl, ex1] at hl
  obtain rfl : l = [⟨#[97]⟩, ⟨#[98]⟩, ⟨#[99]⟩] := map_toL_inj hl
  clear hl h1
  go_wp2_with fail
  refine (h2 _).mono ?_
  rintro e w2 ⟨rfl, rfl⟩
  go_wp2_with fail
  have t2 := ts_new w1 [⟨#[97]⟩, ⟨#[98]⟩, ⟨#[99]⟩] 9
  have hs := same_any A (some ⟨w1.heap.size, 0, none⟩) 3 cap 3 3 _ _ _ (hts.below (grow w1 _)) t2 (by omega) (by omega)
  rw [decide_eq_true rfl] at hs
  refine hs.mono ?_
  rintro e w3 ⟨rfl, hd⟩
  have b3 := below_dr (hb.trans ((grow w1 (Obj.cells ([⟨#[97]⟩, ⟨#[98]⟩, ⟨#[99]⟩].map sv).toArray 9)).mono hb.size)) hd
  clear hts t2 hs hd
  go_wp2_with fail
  refine (h3 _).mono ?_
  rintro e w4 ⟨rfl, hb4⟩
  replace hb4 := b3.trans (hb4.mono b3.size)
  go_wp2_with fail
  go_ret
  exact ⟨rfl, hb4⟩
/-- the chunks of any cuts -/
def LI (D : ByteArray) (w lo hi : Int) (m : Nat) : List (List UInt8) := if fitI w lo hi then Ro.cut ⟨w.toNat, lo.toNat, hi.toNat, m⟩ (toL D) else []
def CutP (D : ByteArray) (w lo hi : Int) (m : Nat) (W : World) (e : Ending) (W' : World) : Prop :=
  ∃ A cap l, e = .returned (.tuple #[.slice A l.length cap, .int .i64 (chk w lo hi : Nat)]) ∧ Ts W' A l.length l ∧ l.map toL = LI D w lo hi m ∧ Below W.heap.size W W' ∧ l.length ≤ cap
theorem ts_nil (w : World) (a : Option Addr) : Ts w a 0 [] := ⟨rfl, fun h => absurd h (by simp)⟩
theorem fit_nat {w lo hi : Int} (h : fitI w lo hi) (m : Nat) : Ro.Cuts.Fit ⟨w.toNat, lo.toNat, hi.toNat, m⟩ ∧ ((w.toNat : Nat) : Int) = w ∧ ((lo.toNat : Nat) : Int) = lo ∧ ((hi.toNat : Nat) : Int) = hi := by
  obtain ⟨h1, h2, h3, h4, h5⟩ := h
  refine ⟨⟨?_, ?_, ?_, ?_, ?_⟩, ?_, ?_, ?_⟩ <;> (try simp only) <;> omega
theorem cutI_any (D : ByteArray) (w lo hi : Int) (m : Nat) (hm : m < 4294967296) (hD : D.size ≤ 4000000000) (W : World) :
    Calls Try.prog 10 #[.string D, .agg (cc w lo hi m)] W (CutP D w lo hi m W) := by
  by_cases h : fitI w lo hi
  · obtain ⟨hf, e1, e2, e3⟩ := fit_nat h m
    have := cut_any D ⟨w.toNat, lo.toNat, hi.toNat, m⟩ hf hm hD W
    simp only [e1, e2, e3] at this
    refine this.mono fun e W' ⟨A, cap, l, he, ht, hl, hb, hcp⟩ => ⟨A, cap, l, by rw [chk_yes h]; exact he, ht, by unfold LI; rw [if_pos h]; exact hl, hb, hcp⟩
  · refine (cut_no D w lo hi m W h).mono fun e W' ⟨he, hb⟩ => ⟨none, 0, [], by rw [chk_no h]; exact he, ts_nil _ _, by unfold LI; rw [if_neg h]; rfl, hb, Nat.le_refl _⟩
theorem rcutI_any (D : ByteArray) (w lo hi : Int) (m : Nat) (hm : m < 4294967296) (hD : D.size ≤ 4000000000) (W : World) :
    Calls Try.prog 11 #[.string D, .agg (cc w lo hi m)] W (CutP D w lo hi m W) := by
  by_cases h : fitI w lo hi
  · obtain ⟨hf, e1, e2, e3⟩ := fit_nat h m
    have := rcut_any D ⟨w.toNat, lo.toNat, hi.toNat, m⟩ hf hm hD W
    simp only [e1, e2, e3] at this
    refine this.mono fun e W' ⟨A, cap, l, he, ht, hl, hb, hcp⟩ => ⟨A, cap, l, by rw [chk_yes h]; exact he, ht, by unfold LI; rw [if_pos h]; exact hl, hb, hcp⟩
  · refine (rcut_no D w lo hi m W h).mono fun e W' ⟨he, hb⟩ => ⟨none, 0, [], by rw [chk_no h]; exact he, ts_nil _ _, by unfold LI; rw [if_neg h]; rfl, hb, Nat.le_refl _⟩
theorem ccm (w lo hi : Int) (m : Nat) : cc w lo hi m = #[.int .i64 w, .int .i64 lo, .int .i64 hi, .int .u32 (m : Nat)] := rfl
theorem At.drew {W : World} {g : Nat} {w lo hi : Int} {m : Nat} (h : At W g w lo hi m) : At W.drew g w lo hi m := ⟨h.c0, h.c1, h.c2, h.c3⟩
theorem At.four {W : World} {g : Nat} {w lo hi : Int} {m : Nat} (h : At W g w lo hi m) : W.cell? ⟨g, 0, none⟩ = some (.int .i64 w) ∧ W.cell? ⟨g, 1, none⟩ = some (.int .i64 lo) ∧ W.cell? ⟨g, 2, none⟩ = some (.int .i64 hi) ∧ W.cell? ⟨g, 3, none⟩ = some (.int .u32 (m : Nat)) := ⟨h.c0, h.c1, h.c2, h.c3⟩
theorem li_len (D : ByteArray) (w lo hi : Int) (m : Nat) : (LI D w lo hi m).length ≤ D.size := by
  unfold LI
  split
  · rename_i h
    have hs := Ro.cut_sizes _ (fit_nat h m).1 _ (toL D) rfl
    have hj := Ro.cut_join _ (fit_nat h m).1 _ (toL D) rfl
    generalize Ro.cut ⟨w.toNat, lo.toNat, hi.toNat, m⟩ (toL D) = L at *
    have : ∀ L : List (List UInt8), (∀ x ∈ L, 1 ≤ x.length) → L.length ≤ L.flatten.length := fun L => by
      induction L with
      | nil => simp
      | cons a t ih =>
        intro h
        have h1 := h a (by simp)
        have h2 := ih (fun x hx => h x (by simp [hx]))
        simp; simp at h2; omega
    have := this L (fun x hx => by
      obtain ⟨i, hi, rfl⟩ := List.getElem_of_mem hx
      exact (hs i hi).1)
    rw [hj, toL_length] at this
    exact this
  · simp
end Go.Proofs.Ytingpadjciohjaa
