/-
  THE WALK of the value through points as the document's answer has it.
-/
import Derived.Test.YtgfnpemonpebpaaFa
namespace Go.Proofs.Ytgfnpemonpebpaa
open Go.RowKit
/-- a fact for every index, kept from the walk -/
def NoPair (xs : List Nat) (len i n : Nat) : Prop := ∀ k, k < n → k < len → k ≠ i → Gf.nth xs k ≠ Gf.nth xs i
theorem quietA {P : Program} {f : FuncId} {args : Array Value} {w : World} {a n : Nat} {v : Value}
    (h : Calls P f args (w.drewN (a + n)) fun e w' => e = .returned v ∧ w.drewN (a + n) = w') :
    Calls P f args (w.drewN (a + n)) fun e w'' => e = .returned v ∧ ∃ m, w'' = w.drewN (a + m) :=
  h.mono fun _ _ ⟨he, hm⟩ => ⟨he, n, hm.symm⟩
def NoPairs (xs : List Nat) (len m : Nat) : Prop := ∀ i, i < m → NoPair xs len i len
set_option maxHeartbeats 1000000 in
theorem rat_any (a a' : Option Addr) (len cap len' cap' : Nat) (xs ys : List Nat) (X : Nat) (w : World) (hX : X < 256) (hm : len ≤ 9223372036854775807) (hm' : len' ≤ 9223372036854775807) (hl : Bs w a len xs) (hl' : Bs w a' len' ys) :
    Calls Try.prog 19 #[.slice a len cap, .slice a' len' cap', .int .u8 (X : Int)] w fun e w' => AtIs xs ys X e ∧ Dr w w' := by
  by_cases hlen : len = len'
  · subst hlen
    have hll : xs.length = ys.length := by rw [hl.1, hl'.1]
    have HLL := Lib.hid hll
    have HX := Lib.hid hl.1
    clear hll
    go_enter Try.func19, Try.ntmps19
    go_wp2_with fail
    go_loopw [8, 19] (fun v i wr => ∃ k : Nat, k ≤ len ∧ i = .int .i64 k ∧ v = .int .u8 (Gf.atk xs ys X k : Nat) ∧ NoPairs xs len k ∧ Dr w wr) (fun _ i _ => len - (intOf i).toNat)
    case atStart => exact ⟨0, Nat.zero_le _, rfl, rfl, fun i hi => by omega, Dr.refl _⟩
    case round =>
      obtain ⟨i, hi, rfl, rfl, hn, hd⟩ := hrel
      have lv := Gf.atk_lt (xs := xs) hl'.2.1 X i
      by_cases hlt : i < len
      · obtain ⟨b, off, rfl, hc⟩ := hl.2.2 (by omega)
        obtain ⟨b', off', rfl, hc'⟩ := hl'.2.2 (by omega)
        have cy := (hd.cell _).trans (hc' i hlt)
        have HC := Lib.hid hc
        have ly := hl'.2.1.at_ i
        have li := hl.2.1.at_ i
        clear hc hc'
        go_wp2_with fail
        obtain ⟨wo, rfl⟩ : ∃ wo : World, wo = wr := ⟨_, rfl⟩
        go_loopw [10, 28] (fun p k wr => ∃ j : Nat, j ≤ len ∧ k = .int .i64 j ∧ p = .int .u8 (Gf.rpart xs (Gf.nth ys i) i X j : Nat) ∧ NoPair xs len i j ∧ Dr w wr) (fun _ k _ => len - (intOf k).toNat)
        case atStart => exact ⟨0, Nat.zero_le _, rfl, rfl, fun k hk => by omega, hd⟩
        case round =>
          obtain ⟨j, hj, rfl, rfl, hnj, hdj⟩ := hrel
          have lp := Gf.rpart_lt (xs := xs) (Gf.nth ys i) i X ly j
          by_cases hjl : j < len
          · have c1 := (hdj.cell _).trans (HC.out j hjl)
            have c2 := (hdj.cell _).trans (HC.out i hlt)
            have lj := hl.2.1.at_ j
            have b1 : (j : Int) < (len : Int) := by omega
            have b2 : (i : Int) < (len : Int) := by omega
            by_cases hji : j = i
            · have t1 : ((j : Int) != (i : Int)) = false := by simp [hji]
              have HJ := Lib.hid hji
              clear hji
              go_wp2_with fail
              go_quiet (fail)
              go_wp2_with fail
              go_roundw
              case rel => exact ⟨j + 1, by omega, by go_num, by rw [Gf.rpart_no HJ.out], fun k h1 h2 h3 => by
                by_cases h : k = j
                · exact absurd (h.trans HJ.out) h3
                · exact hnj k (by omega) h2 h3, hdj.drewN _⟩
              case measure => simp [intOf]; omega
            · have t1 : ((j : Int) != (i : Int)) = true := by rw [bne_iff_ne]; omega
              have HJ := Lib.hid hji
              clear hji
              by_cases he : Gf.nth xs j = Gf.nth xs i
              · have t2 : ((Gf.nth xs j : Int) == (Gf.nth xs i : Int)) = true := by simp [he]
                have HE := Lib.hid he
                clear he
                go_wp2_with fail
                go_quiet (fail)
                go_wp2_with fail
                go_ret2
                exact ⟨AtIs.no (by rw [Gf.dup_of (l := xs) (i := j) (j := i) (by have := HX.out; omega) (by have := HX.out; omega) HJ.out HE.out]; simp), hdj.drewN _⟩
              · have t2 : ((Gf.nth xs j : Int) == (Gf.nth xs i : Int)) = false := by rw [beq_eq_false_iff_ne]; omega
                have HE := Lib.hid he
                clear he
                have X1 := xor8 X (Gf.nth xs j) hX lj
                have X2 := xor8 (Gf.nth xs i) (Gf.nth xs j) li lj
                have x1 := Gf.xor_lt hX lj
                have x2 := Gf.xor_lt li lj
                have x3 := Gf.inv_lt _ x2
                have x4 := Gf.mul_lt (X ^^^ Gf.nth xs j) (Gf.inv (Gf.nth xs i ^^^ Gf.nth xs j)) x1
                go_wp2_with fail
                go_quiet (fail)
                go_wp2_with fail
                go_quiet ((first | (go_at_call 30; exact quietA (rinv_any _ _ (by omega))) | (go_at_call 29; exact quietA (rmul_any _ _ _ (by omega) (by omega)))))
                go_wp2_with fail
                go_roundw
                case rel => exact ⟨j + 1, by omega, by go_num, by rw [Gf.rpart_yes HJ.out], fun k h1 h2 h3 => by
                  by_cases h : k = j
                  · rw [h]; exact HE.out
                  · exact hnj k (by omega) h2 h3, hdj.drewN _⟩
                case measure => simp [intOf]; omega
          · obtain rfl : j = len := by omega
            have hr := Gf.rpart_wt hl.2.1 (Gf.nth ys i) i X ly hX
            rw [HX.out] at hr
            have HR := Lib.hid hr
            have X1 := Lib.hid (xor8 (Gf.atk xs ys X i) (Gf.rpart xs (Gf.nth ys i) i X j) lv lp)
            clear hr
            go_wp2_with fail
            go_roundw
            case rel => exact ⟨i + 1, by omega, by go_num, by rw [X1.out, HR.out]; rfl, fun k hk => by
              by_cases h : k = i
              · rw [h]; exact hnj
              · exact hn k (by omega), hdj⟩
            case measure => simp [intOf]; omega
      · obtain rfl : i = len := by omega
        go_wp2_with fail
        go_ret2
        refine ⟨?_, hd⟩
        have := AtIs.yes (X := X) HLL.out (Gf.dup_not (l := xs) (fun i j h1 h2 h3 => hn i (by rw [← hl.1]; exact h1) j (by rw [← hl.1]; exact h2) (by rw [← hl.1]; exact h2) h3))
        rw [hl.1] at this
        exact this
  · have hll : ¬ xs.length = ys.length := by rw [hl.1, hl'.1]; exact hlen
    have HLL := Lib.hid hll
    have t1 : ((len : Int) != (len' : Int)) = true := by rw [bne_iff_ne]; omega
    clear hlen hll
    go_enter Try.func19, Try.ntmps19
    go_wp2_with fail
    go_ret2
    exact ⟨AtIs.no (fun h => HLL.out h.1), Dr.refl _⟩
end Go.Proofs.Ytgfnpemonpebpaa
