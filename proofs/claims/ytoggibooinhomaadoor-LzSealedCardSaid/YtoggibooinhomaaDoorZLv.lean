/-
  THE WALK of the laws' example; Pack and Unpack, as the laws call them.
-/
import Derived.Test.YtoggibooinhomaaDoorZLk
import Derived.Test.YtoggibooinhomaaDoorZLt
namespace Go.Proofs.YtoggibooinhomaaDoor.Z
open Go.RowKit
set_option linter.unusedVariables false
set_option linter.unusedSimpArgs false
theorem unP_eq {r : Nat × List UInt8} {k : Nat} {l : List UInt8} {e : Ending} (h : r = (k, l)) (u : UnP r e) : e = .returned (.tuple #[.string (ofL l), .int .i64 (k : Nat)]) := by subst h; exact u
theorem pack6 (w : World) : Calls Tryd.prog 8 #[.string ⟨#[97, 97, 97, 97, 97, 97]⟩] w fun e w' => e = .returned (.string ⟨#[0, 97, 129, 1, 0]⟩) ∧ Below w.heap.size w w' := by
  refine (pack_any ⟨#[97, 97, 97, 97, 97, 97]⟩ w (by decide)).mono ?_
  rintro e w' ⟨rfl, hb⟩
  refine ⟨rstr ?_, hb⟩
  have e1 : toL ⟨#[97, 97, 97, 97, 97, 97]⟩ = [97, 97, 97, 97, 97, 97] := rfl
  rw [e1, Lz.six]
  rfl
theorem unpack6 (w : World) : Calls Tryd.prog 9 #[.string ⟨#[0, 97, 129, 1, 0]⟩, .int .i64 6] w fun e w' => e = .returned (.tuple #[.string ⟨#[97, 97, 97, 97, 97, 97]⟩, .int .i64 0]) ∧ Below w.heap.size w w' := by
  refine (unpack_any ⟨#[0, 97, 129, 1, 0]⟩ 6 w (by decide) (by decide) (by decide)).mono ?_
  rintro e w' ⟨h, hb⟩
  have e1 : toL ⟨#[0, 97, 129, 1, 0]⟩ = Lz.pack [97, 97, 97, 97, 97, 97] := Lz.six.symm
  rw [e1] at h
  exact ⟨unP_eq (Lz.unpack_pack [97, 97, 97, 97, 97, 97] 6 (by decide)) h, hb⟩
theorem alive_any (w : World) : Calls Tryd.prog 4 #[] w fun e w' => e = .returned (.bool true) ∧ Below w.heap.size w w' := by
  go_enter Tryd.func4, Tryd.ntmps4
  go_wp2_with fail
  refine (pack6 _).mono ?_
  rintro e w1 ⟨rfl, hb⟩
  go_wp2_with fail
  refine (unpack6 _).mono ?_
  rintro e w2 ⟨rfl, hb2⟩
  go_wp2_with fail
  go_ret
  exact ⟨rfl, hb.trans (hb2.mono hb.size)⟩
theorem pk_size (s : ByteArray) : (ofL (Lz.pack (toL s))).size ≤ s.size + (s.size + 127) / 128 := by
  have := Lz.pack_len (toL s)
  rw [toL_len] at this
  rw [ofL_size]
  exact this
theorem un_back (s : ByteArray) (most : Int) (w : World) (h : (s.size : Int) ≤ most) (h2 : s.size ≤ 6000) (hlo : -9223372036854775808 ≤ most) (hhi : most ≤ 9223372036854775807) :
    Calls Tryd.prog 9 #[.string (ofL (Lz.pack (toL s))), .int .i64 most] w fun e w' => e = .returned (.tuple #[.string s, .int .i64 0]) ∧ Below w.heap.size w w' := by
  refine (unpack_any _ most w (by have := pk_size s; omega) hhi hlo).mono ?_
  rintro e w' ⟨hu, hb⟩
  rw [toL_ofL] at hu
  have := unP_eq (Lz.unpack_pack (toL s) most (by rw [toL_len]; exact h)) hu
  rw [ofL_toL] at this
  exact ⟨this, hb⟩
theorem un_more (s : ByteArray) (most : Int) (w : World) (h : most < (s.size : Int)) (h2 : s.size ≤ 6000) (hlo : -9223372036854775808 ≤ most) (hhi : most ≤ 9223372036854775807) :
    Calls Tryd.prog 9 #[.string (ofL (Lz.pack (toL s))), .int .i64 most] w fun e w' => e = .returned (.tuple #[.string ⟨#[]⟩, .int .i64 6]) ∧ Below w.heap.size w w' := by
  refine (unpack_any _ most w (by have := pk_size s; omega) hhi hlo).mono ?_
  rintro e w' ⟨hu, hb⟩
  rw [toL_ofL] at hu
  exact ⟨unP_eq (Lz.unpack_more (toL s) most (by rw [toL_len]; exact h)) hu, hb⟩
theorem un_two (a b : ByteArray) (w : World) (h1 : a.size ≤ 1000) (h2 : b.size ≤ 1000) :
    Calls Tryd.prog 9 #[.string (ofL (Lz.pack (toL a)) ++ ofL (Lz.pack (toL b))), .int .i64 ((a.size : Int) + (b.size : Int))] w fun e w' => e = .returned (.tuple #[.string (a ++ b), .int .i64 0]) ∧ Below w.heap.size w w' := by
  refine (unpack_any _ _ w (by have := pk_size a; have := pk_size b; rw [ByteArray.size_append]; omega) (by omega) (by omega)).mono ?_
  rintro e w' ⟨hu, hb⟩
  rw [toL_append, toL_ofL, toL_ofL] at hu
  have := unP_eq (Lz.unpack_two (toL a) (toL b) ((a.size : Int) + (b.size : Int)) (by rw [toL_len, toL_len]; omega)) hu
  rw [← toL_append, ofL_toL] at this
  exact ⟨this, hb⟩
/-- of what was cut short: that it is short, or the front -/
theorem un_cut (s : ByteArray) (n : Nat) (w : World) (h : s.size ≤ 1000) (hn : n ≤ (ofL (Lz.pack (toL s))).size) :
    (∀ w, Calls Tryd.prog 9 #[.string ((ofL (Lz.pack (toL s))).extract 0 n), .int .i64 (s.size : Int)] w fun e w' => e = .returned (.tuple #[.string ⟨#[]⟩, .int .i64 4]) ∧ Below w.heap.size w w') ∧ n < (ofL (Lz.pack (toL s))).size ∨
    ∃ m, m ≤ s.size ∧ (n < (ofL (Lz.pack (toL s))).size ∨ m = s.size) ∧ ∀ w, Calls Tryd.prog 9 #[.string ((ofL (Lz.pack (toL s))).extract 0 n), .int .i64 (s.size : Int)] w fun e w' => e = .returned (.tuple #[.string (s.extract 0 m), .int .i64 0]) ∧ Below w.heap.size w w' := by
  have hx : toL ((ofL (Lz.pack (toL s))).extract 0 n) = (Lz.pack (toL s)).take n := by rw [toL_extract _ _ _ hn, toL_ofL, List.drop_zero]
  have hz : ((ofL (Lz.pack (toL s))).extract 0 n).size ≤ 7000 := by have := pk_size s; rw [ByteArray.size_extract]; omega
  have hu := fun w => unpack_any ((ofL (Lz.pack (toL s))).extract 0 n) (s.size : Int) w hz (by omega) (by omega)
  rw [hx] at hu
  have whole : n = (ofL (Lz.pack (toL s))).size → Lz.unpack (s.size : Int) ((Lz.pack (toL s)).take n) = (0, toL s) := fun e => by
    rw [e, ofL_size, List.take_length]
    exact Lz.unpack_pack (toL s) _ (by rw [toL_len]; omega)
  have hc := Lz.unpack_cut (toL s) n
  rw [toL_len] at hc
  rcases hc with hc | ⟨r, hc, hr⟩
  · left
    refine ⟨fun w => (hu w).mono fun e w' ⟨h1, h2⟩ => ⟨unP_eq hc h1, h2⟩, ?_⟩
    rcases Nat.lt_or_ge n (ofL (Lz.pack (toL s))).size with h1 | h1
    · exact h1
    · have := whole (by omega)
      rw [hc] at this
      cases this
  · right
    have hl : r.length ≤ s.size := by have := hr.length_le; rw [toL_len] at this; exact this
    have er : ofL r = s.extract 0 r.length := toL_inj (by
      rw [toL_ofL, toL_extract _ _ _ hl, List.drop_zero]
      exact List.prefix_iff_eq_take.1 hr)
    refine ⟨r.length, hl, ?_, fun w => (hu w).mono fun e w' ⟨h1, h2⟩ => ⟨by rw [← er]; exact unP_eq hc h1, h2⟩⟩
    rcases Nat.lt_or_ge n (ofL (Lz.pack (toL s))).size with h1 | h1
    · exact .inl h1
    · right
      have := whole (by omega)
      rw [hc] at this
      injection this with _ this
      rw [this, toL_len]
end Go.Proofs.YtoggibooinhomaaDoor.Z
