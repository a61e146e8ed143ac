/-
  THE WALKS of the question whether a point is there twice, and of the value of the polynomial through points, of the code and of the document's answer.
-/
import Derived.Test.YtgfnpemonpebpaaFw
namespace Go.Proofs.Ytgfnpemonpebpaa
open Go.RowKit
/-- which bytes have been met among the first k -/
def seen (l : List Nat) (k : Nat) : Array Value := ((List.range 256).map fun j => Value.bool ((l.take k).contains j)).toArray
theorem seen_get (l : List Nat) (k j : Nat) (hj : j < 256) : (seen l k)[j]? = some (.bool ((l.take k).contains j)) := by
  simp [seen, hj]

/-- block g is just these cells -/
def Own (w : World) (g : Nat) (t : TypeId) (cs : Array Value) : Prop := w.heap[g]? = some (.cells cs t (0, 0))
theorem Own.cell {w : World} {g : Nat} {t : TypeId} {cs : Array Value} (h : Own w g t cs) (i : Nat) : w.cell? ⟨g, i, none⟩ = cs[i]? := by
  unfold Own at h; simp [World.cell?, h]
theorem Own.frozen {w : World} {g : Nat} {t : TypeId} {cs : Array Value} (h : Own w g t cs) (i : Nat) : w.frozen? ⟨g, i, none⟩ = false := by
  unfold Own at h; simp [World.frozen?, h]
theorem Own.lt {w : World} {g : Nat} {t : TypeId} {cs : Array Value} (h : Own w g t cs) : g < w.heap.size := lt_of_block h
theorem Own.new (w : World) (t : TypeId) (cs : Array Value) : Own (w.alloc (.cells cs t)) w.heap.size t cs := by
  unfold Own
  show (w.heap.push _)[w.heap.size]? = _
  simp
theorem Own.set {w : World} {g : Nat} {t : TypeId} {cs : Array Value} (h : Own w g t cs) (i : Nat) (u : Value) : Own (w.setCell ⟨g, i, none⟩ u) g t (cs.setIfInBounds i u) := by
  unfold Own at h ⊢
  simp [World.setCell, Array.getElem?_modify, h]
theorem Bs.below {a b : World} {x : Option Addr} {len : Nat} {l : List Nat} (h : Bs a x len l) (k : Below a.heap.size a b) : Bs b x len l :=
  ⟨h.1, h.2.1, fun h0 => by
    obtain ⟨g, off, e, hc⟩ := h.2.2 h0
    exact ⟨g, off, e, fun i hi => (k.cell (World.block_lt_of_cell? _ _ (hc i hi))).trans (hc i hi)⟩⟩

theorem seen_next (l : List Nat) (k : Nat) (hk : k < l.length) : (seen l k).setIfInBounds (Gf.nth l k) (.bool true) = seen l (k + 1) := by
  have e : l.take (k + 1) = l.take k ++ [Gf.nth l k] := by
    rw [List.take_succ_eq_append_getElem hk, Gf.nth_eq, List.getElem?_eq_getElem hk]; rfl
  apply Array.ext_getElem?
  intro j
  by_cases hj : j < 256
  · rw [seen_get _ _ _ hj, Array.getElem?_setIfInBounds]
    by_cases he : Gf.nth l k = j
    · subst he
      rw [if_pos rfl, if_pos (by simp [seen]; omega), e]
      simp
    · rw [if_neg he, seen_get _ _ _ hj, e]
      simp [Ne.symm he]
  · rw [Array.getElem?_eq_none (by simp [seen]; omega), Array.getElem?_eq_none (by simp [seen]; omega)]

theorem zero68 (l : List Nat) (w : World) : (zeroValue 65).run Try.prog w = .ok (.agg (seen l 0)) w := by kernel_rfl
set_option maxHeartbeats 400000 in
theorem twice_any (a : Option Addr) (len cap : Nat) (l : List Nat) (w : World) (hm : len ≤ 9223372036854775807) (hl : Bs w a len l) :
    Calls Try.prog 24 #[.slice a len cap] w fun e w' => e = .returned (.bool (Gf.dup l)) ∧ Below w.heap.size w w' := by
  obtain ⟨h1, hb, h2⟩ := hl
  have H2 := Lib.hid h2
  have H1 := Lib.hid h1
  clear h1 h2
  go_enter Try.func24, Try.ntmps24
  have hz := zero68 l
  go_wp2
  go_loopw [5, 8] (fun _ i wr => ∃ k : Nat, k ≤ len ∧ i = .int .i64 k ∧ Gf.dupTo l k = false ∧ Own wr w.heap.size 65 (seen l k) ∧ Below w.heap.size w wr) (fun _ i _ => len - (intOf i).toNat)
  case atStart => exact ⟨0, Nat.zero_le _, rfl, rfl, Own.new _ _ _, (Below.refl _ _).alloc (Nat.le_refl _) _⟩
  case round =>
    obtain ⟨k, hk, rfl, hd, ho, hw⟩ := hrel
    have HD := Lib.hid hd
    clear hd hz
    by_cases hlt : k < len
    · obtain ⟨b, off, rfl, hc⟩ := H2.out (by omega)
      have lk := hb.at_ k
      have c1 := (hw.cell (World.block_lt_of_cell? _ _ (hc k hlt))).trans (hc k hlt)
      have c2 := (ho.cell (Gf.nth l k)).trans (seen_get l k (Gf.nth l k) lk)
      have fz := ho.frozen (Gf.nth l k)
      clear hc
      cases hcon : (l.take k).contains (Gf.nth l k)
      · rw [hcon] at c2
        have HN := Lib.hid hcon
        clear hcon
        go_wp2
        go_roundw
        case rel =>
          refine ⟨k + 1, by omega, by go_num, ?_, ?_, hw.setCell (Nat.le_refl _) _⟩
          · simp only [Gf.dupTo, HD.out, HN.out, Bool.or_false]
          · rw [← seen_next l k (by have := H1.out; omega)]; exact ho.set _ _
        case measure => simp [intOf]; omega
      · rw [hcon] at c2
        have HN := Lib.hid hcon
        clear hcon
        go_wp2
        go_ret
        exact ⟨by rw [Gf.dupTo_mono (by have := H1.out; omega) HN.out]; rfl, hw⟩
    · obtain rfl : k = len := by omega
      go_wp2
      go_ret
      exact ⟨by unfold Gf.dup; rw [H1.out, HD.out]; rfl, hw⟩

theorem Bs.drewN {w : World} {x : Option Addr} {len : Nat} {l : List Nat} (h : Bs w x len l) (n : Nat) : Bs (w.drewN n) x len l := h.dr ⟨n, rfl⟩
theorem Below.dr {B : Nat} {a w w' : World} (h : Below B a w) (k : Dr w w') : Below B a w' := by
  obtain ⟨n, rfl⟩ := k
  exact ⟨h.os, h.tape, h.output, h.size, h.block⟩
/-- the value through points, or that there is none -/
def AtIs (xs ys : List Nat) (X : Nat) (e : Ending) : Prop :=
  e = if xs.length = ys.length ∧ Gf.dup xs = false then .returned (.tuple #[.int .u8 (Gf.atk xs ys X xs.length : Nat), .bool true]) else .returned (.tuple #[.int .u8 0, .bool false])
theorem AtIs.no {xs ys : List Nat} {X : Nat} (h : ¬ (xs.length = ys.length ∧ Gf.dup xs = false)) : AtIs xs ys X (.returned (.tuple #[.int .u8 0, .bool false])) := by unfold AtIs; rw [if_neg h]
theorem AtIs.yes {xs ys : List Nat} {X : Nat} (h : xs.length = ys.length) (hd : Gf.dup xs = false) : AtIs xs ys X (.returned (.tuple #[.int .u8 (Gf.atk xs ys X xs.length : Nat), .bool true])) := by unfold AtIs; rw [if_pos ⟨h, hd⟩]

set_option maxHeartbeats 400000 in
theorem at_any (a a' : Option Addr) (len cap len' cap' : Nat) (xs ys : List Nat) (X : Nat) (w : World) (hX : X < 256) (hm : len ≤ 9223372036854775807) (hm' : len' ≤ 9223372036854775807) (hl : Bs w a len xs) (hl' : Bs w a' len' ys) :
    Calls Try.prog 17 #[.slice a len cap, .slice a' len' cap', .int .u8 (X : Int)] w fun e w' => AtIs xs ys X e ∧ Below w.heap.size w w' := by
  by_cases hlen : len = len'
  · have HL := Lib.hid hlen
    have t1 : ((len : Int) != (len' : Int)) = false := by simp [hlen]
    have hll : xs.length = ys.length := by rw [hl.1, hl'.1, hlen]
    have HLL := Lib.hid hll
    clear hlen hll
    cases hd : Gf.dup xs
    · have HD := Lib.hid hd
      clear hd
      go_enter Try.func17, Try.ntmps17
      go_wp2_with (go_at_call 24; refine (twice_any _ _ _ _ _ hm hl).mono ?_; rintro e w1 ⟨rfl, hb1⟩; rw [HD.out])
      have hx1 := hl.below hb1
      have hy1 := hl'.below hb1
      go_loopw [8, 21] (fun v i wr => ∃ k : Nat, k ≤ len ∧ i = .int .i64 k ∧ v = .int .u8 (Gf.atk xs ys X k : Nat) ∧ Dr w1 wr) (fun _ i _ => len - (intOf i).toNat)
      case atStart => exact ⟨0, Nat.zero_le _, rfl, rfl, Dr.refl _⟩
      case round =>
        obtain ⟨k, hk, rfl, rfl, hd⟩ := hrel
        by_cases hlt : k < len
        · have hx2 := hx1.dr hd
          have hy2 := hy1.dr hd
          obtain ⟨b, off, rfl, hc⟩ := hy2.2.2 (by have := HL.out; omega)
          have c1 := hc k (by have := HL.out; omega)
          have ly := hl'.2.1.at_ k
          have lv := Gf.atk_lt (xs := xs) hl'.2.1 X k
          have lw := Gf.wt_lt xs k X
          have X1 := Lib.hid (xor8 (Gf.atk xs ys X k) (Gf.mul (Gf.nth ys k) (Gf.wt xs k X)) lv (Gf.mul_lt _ _ ly))
          have hkl : k < len' := by have := HL.out; omega
          clear hc
          go_wp2
          go_quiet ((first | (go_at_call 26; exact quietD (weight_any _ _ _ _ _ _ _ hX hm hlt (hx2.drewN _))) | (go_at_call 25; exact quietS (mul_any _ _ _ (by omega) (by omega)))))
          go_wp2
          go_roundw
          case rel => exact ⟨k + 1, by omega, by go_num, by rw [X1.out]; rfl, hd.drewN _⟩
          case measure => simp [intOf]; omega
        · obtain rfl : k = len := by omega
          go_wp2
          go_ret2
          refine ⟨?_, Below.dr hb1 hd⟩
          have := AtIs.yes (X := X) HLL.out HD.out
          rw [hl.1] at this
          exact this
    · have HD := Lib.hid hd
      clear hd
      go_enter Try.func17, Try.ntmps17
      go_wp2_with (go_at_call 24; refine (twice_any _ _ _ _ _ hm hl).mono ?_; rintro e w1 ⟨rfl, hb1⟩; rw [HD.out])
      go_ret2
      exact ⟨AtIs.no (by rw [HD.out]; simp), hb1⟩
  · have hll : ¬ xs.length = ys.length := by rw [hl.1, hl'.1]; exact hlen
    have HLL := Lib.hid hll
    have t1 : ((len : Int) != (len' : Int)) = true := by rw [bne_iff_ne]; omega
    clear hlen hll
    go_enter Try.func17, Try.ntmps17
    go_wp2_with fail
    go_ret2
    exact ⟨AtIs.no (fun h => HLL.out h.1), Below.refl _ _⟩
end Go.Proofs.Ytgfnpemonpebpaa
