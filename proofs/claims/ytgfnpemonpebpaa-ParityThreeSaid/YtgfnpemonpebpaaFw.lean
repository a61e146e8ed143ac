/-
  THE WALKS of the functions that read lists of bytes: polynomials, weights, the value through points, of the code and of the document's answer.
-/
import Derived.Test.YtgfnpemonpebpaaFm
import Derived.Test.YtgfnpemonpebpaaGl
import Derived.Deep.QuietTactic
import Derived.BigQuiet
import Derived.Deep.Draws
namespace Go.Proofs.Ytgfnpemonpebpaa
open Go.RowKit

/-- the slice reads as these bytes -/
def Bs (w : World) (a : Option Addr) (len : Nat) (l : List Nat) : Prop :=
  l.length = len ∧ Gf.Bytes l ∧ (0 < len → ∃ b off, a = some ⟨b, off, none⟩ ∧ ∀ i, i < len → w.cell? ⟨b, off + i, none⟩ = some (.int .u8 ((Gf.nth l i) : Nat)))

/-- nothing but draws stands between two worlds -/
def Dr (w w' : World) : Prop := ∃ n, w' = w.drewN n
theorem Dr.refl (w : World) : Dr w w := ⟨0, rfl⟩
theorem Dr.trans {a b c : World} (h : Dr a b) (k : Dr b c) : Dr a c := by
  obtain ⟨n, rfl⟩ := h
  obtain ⟨m, rfl⟩ := k
  exact ⟨n + m, by rw [World.drewN_drewN]⟩
theorem Dr.drewN {a b : World} (h : Dr a b) (n : Nat) : Dr a (b.drewN n) := h.trans ⟨n, rfl⟩
theorem Dr.drew {a b : World} (h : Dr a b) : Dr a b.drew := h.trans ⟨1, rfl⟩
theorem Dr.cell {a b : World} (h : Dr a b) (x : Addr) : b.cell? x = a.cell? x := by obtain ⟨n, rfl⟩ := h; rfl
theorem Dr.below {a b : World} (h : Dr a b) : Below a.heap.size a b := by
  obtain ⟨n, rfl⟩ := h
  exact ⟨rfl, rfl, rfl, Nat.le_refl _, fun _ _ => rfl⟩
theorem Bs.dr {a b : World} {x : Option Addr} {len : Nat} {l : List Nat} (h : Bs a x len l) (k : Dr a b) : Bs b x len l :=
  ⟨h.1, h.2.1, fun h0 => by
    obtain ⟨g, off, e, hc⟩ := h.2.2 h0
    exact ⟨g, off, e, fun i hi => (k.cell _).trans (hc i hi)⟩⟩
theorem quietS {P : Program} {f : FuncId} {args : Array Value} {w : World} {n : Nat} {v : Value}
    (h : Calls P f args (w.drewN n) fun e w' => e = .returned v ∧ w.drewN n = w') : Calls P f args (w.drewN n) fun e w'' => e = .returned v ∧ ∃ m, w'' = w.drewN m :=
  h.mono fun _ _ ⟨he, hm⟩ => ⟨he, n, hm.symm⟩
theorem quietD {P : Program} {f : FuncId} {args : Array Value} {w : World} {n : Nat} {v : Value}
    (h : Calls P f args (w.drewN n) fun e w' => e = .returned v ∧ Dr (w.drewN n) w') : Calls P f args (w.drewN n) fun e w'' => e = .returned v ∧ ∃ m, w'' = w.drewN m :=
  h.mono fun _ _ ⟨he, m, hm⟩ => ⟨he, n + m, by rw [hm, World.drewN_drewN]⟩

set_option maxHeartbeats 400000 in
theorem weight_any (a : Option Addr) (len cap : Nat) (l : List Nat) (j : Nat) (X : Nat) (w : World) (hX : X < 256) (hm : len ≤ 9223372036854775807) (hj : j < len) (hl : Bs w a len l) :
    Calls Try.prog 26 #[.slice a len cap, .int .i64 (j : Int), .int .u8 (X : Int)] w fun e w' => e = .returned (.int .u8 (Gf.wt l j X : Nat)) ∧ Dr w w' := by
  obtain ⟨h1, hb, h2⟩ := hl
  obtain ⟨b, off, rfl, hc⟩ := h2 (by omega)
  have HC := Lib.hid hc
  have H1 := Lib.hid h1
  clear h1 h2 hc
  go_enter Try.func26, Try.ntmps26
  go_wp2
  go_loopw [7, 8, 12] (fun p q i wr => ∃ k : Nat, k ≤ len ∧ i = .int .i64 k ∧ p = .int .u8 (Gf.wa l j X k : Nat) ∧ q = .int .u8 (Gf.wa l j (Gf.nth l j) k : Nat) ∧ Dr w wr) (fun _ _ i _ => len - (intOf i).toNat)
  case atStart => exact ⟨0, Nat.zero_le _, rfl, rfl, rfl, Dr.refl _⟩
  case round =>
    obtain ⟨k, hk, rfl, rfl, rfl, hd⟩ := hrel
    have lp := Gf.wa_lt (xs := l) j X k
    have lq := Gf.wa_lt (xs := l) j (Gf.nth l j) k
    by_cases hlt : k < len
    · have lk := hb.at_ k
      have lj := hb.at_ j
      have c1 := (hd.cell _).trans (HC.out k hlt)
      have c2 := (hd.cell _).trans (HC.out j hj)
      by_cases hkj : k = j
      · have t1 : ((k : Int) != (j : Int)) = false := by simp [hkj]
        have HK := Lib.hid hkj
        clear hkj
        go_wp2
        go_roundw
        case rel => exact ⟨k + 1, by omega, by go_num, by rw [Gf.wa_no HK.out], by rw [Gf.wa_no HK.out], hd⟩
        case measure => simp [intOf]; omega
      · have t1 : ((k : Int) != (j : Int)) = true := by rw [bne_iff_ne]; omega
        have HK := Lib.hid hkj
        clear hkj
        have X1 := xor8 X (Gf.nth l k) hX lk
        have X2 := xor8 (Gf.nth l j) (Gf.nth l k) lj lk
        have b1 := Gf.xor_lt hX lk
        have b2 := Gf.xor_lt lj lk
        go_wp2_with (go_at_call 25; refine (mul_any _ _ _ (by omega) (by omega)).mono ?_; rintro e w' ⟨rfl, rfl⟩)
        go_quiet ((go_at_call 25; exact quietS (mul_any _ _ _ (by omega) (by omega))))
        go_wp2
        go_roundw
        case rel => exact ⟨k + 1, by omega, by go_num, by rw [Gf.wa_yes HK.out], by rw [Gf.wa_yes HK.out], hd.drewN _⟩
        case measure => simp [intOf]; omega
    · obtain rfl : k = len := by omega
      have li := Gf.inv_lt _ lq
      go_wp2_with (first | (go_at_call 34; refine (inv_any _ _ (by omega)).mono ?_; rintro e w' ⟨rfl, rfl⟩) | (go_at_call 25; refine (mul_any _ _ _ (by omega) (by omega)).mono ?_; rintro e w' ⟨rfl, rfl⟩))
      go_ret
      exact ⟨by unfold Gf.wt; rw [H1.out]; rfl, hd⟩
end Go.Proofs.Ytgfnpemonpebpaa
