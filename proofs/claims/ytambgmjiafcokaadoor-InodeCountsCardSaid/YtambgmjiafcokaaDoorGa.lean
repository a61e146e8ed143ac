/-
  THE WALKS of the small functions: a plan, a bit of the map.
-/
import Derived.Test.YtambgmjiafcokaaDoorBs
import Derived.Test.YtambgmjiafcokaaDoorGm
namespace Go.Proofs.YtambgmjiafcokaaDoor
set_option linter.unusedVariables false
set_option maxRecDepth 100000
set_option linter.unusedSimpArgs false
open Go.RowKit
namespace Dw
open _root_.Go.Proofs.YtambgmjiafcokaaDoor.Nm
/-- a plan's six cells -/
def gc (b n : Nat) : Array Value := #[.int .i64 (b : Int), .int .i64 (n : Int), .int .i64 1, .int .i64 2, .int .i64 3, .int .i64 ((Gm.dat n : Nat) : Int)]
def gz : Array Value := #[.int .i64 0, .int .i64 0, .int .i64 0, .int .i64 0, .int .i64 0, .int .i64 0]
theorem info24 : (Tryd.prog.info? 58).map (·.size) = some 6 := by kernel_rfl
theorem res24 {fn : Func} {p q : Tmp} {R : Ending → World → Prop} {a : Act} {w : World} {g : Nat} {cs : Array Value} {v : Value}
    (hr : fn.results = #[.cell p 58, .tmp q]) (hp : a.tmps.getD p undef = .pointer (some ⟨g, 0, none⟩)) (hq : a.tmps.getD q undef = v) (hg : Own w g 58 cs) (hs : cs.size = 6) (hd : a.defers = [])
    (hR : R (.returned (.tuple #[.agg cs, v])) w) : bodyPost Tryd.prog fn R .ret a w := by
  refine bodyPost_ret ?_ hd hR
  have hp' : a.tmps[p]?.getD undef = .pointer (some ⟨g, 0, none⟩) := by simpa using hp
  have hq' : a.tmps[q]?.getD undef = v := by simpa using hq
  simp [results, hr, hp', hq', asAddr, run_loadVar_row w g 58 58 _ (0, 0) _ hg Tryd.underlying58 rfl (by rw [hs]; exact info24)]
def PlanIs (b n : Int) (e : Ending) : Prop := (∃ x y : Nat, b = (x : Int) ∧ n = (y : Int) ∧ Gm.fits x y ∧ e = .returned (.tuple #[.agg (gc x y), .int .i64 0])) ∨ (Gm.planE b n ≠ 0 ∧ e = .returned (.tuple #[.agg gz, .int .i64 (Gm.planE b n)]))
set_option maxHeartbeats 1000000 in
theorem plan_any (b n : Int) (w : World) : Calls Tryd.prog 34 #[.int .i64 b, .int .i64 n] w fun e w' => PlanIs b n e ∧ Below w.heap.size w w' := by
  have o := Own.new w 58 gz
  have hb := grow w (Obj.cells gz 58)
  by_cases h1 : b < 16
  · have HE := Lib.hid (show Gm.planE b n = 2 by unfold Gm.planE; rw [if_pos (.inl h1)])
    skip
    go_enter Tryd.func34, Tryd.ntmps34
    go_wp2_with fail
    exact res24 rfl rfl rfl o rfl rfl ⟨.inr ⟨by rw [HE.out]; decide, by rw [HE.out]; rfl⟩, hb⟩
  by_cases h2 : 223 < b
  · have HE := Lib.hid (show Gm.planE b n = 2 by unfold Gm.planE; rw [if_pos (.inr (.inl h2))])
    skip
    go_enter Tryd.func34, Tryd.ntmps34
    go_wp2_with fail
    exact res24 rfl rfl rfl o rfl rfl ⟨.inr ⟨by rw [HE.out]; decide, by rw [HE.out]; rfl⟩, hb⟩
  by_cases h3 : n < 4
  · have HE := Lib.hid (show Gm.planE b n = 2 by unfold Gm.planE; rw [if_pos (.inr (.inr (.inl h3)))])
    skip
    go_enter Tryd.func34, Tryd.ntmps34
    go_wp2_with fail
    exact res24 rfl rfl rfl o rfl rfl ⟨.inr ⟨by rw [HE.out]; decide, by rw [HE.out]; rfl⟩, hb⟩
  by_cases h4 : 64 < n
  · have HE := Lib.hid (show Gm.planE b n = 2 by unfold Gm.planE; rw [if_pos (.inr (.inr (.inr h4)))])
    skip
    go_enter Tryd.func34, Tryd.ntmps34
    go_wp2_with fail
    exact res24 rfl rfl rfl o rfl rfl ⟨.inr ⟨by rw [HE.out]; decide, by rw [HE.out]; rfl⟩, hb⟩
  obtain ⟨y, rfl⟩ := Int.eq_ofNat_of_zero_le (show 0 ≤ n by omega)
  obtain ⟨x, rfl⟩ := Int.eq_ofNat_of_zero_le (show 0 ≤ b by omega)
  have e1 : IntKind.i64.wrap ((y : Int) + 1) = (y : Int) + 1 := IntWalk.i64_in _ (by omega)
  have e2 : ((y : Int) + 1).tdiv 2 = (((y + 1) / 2 : Nat) : Int) := rfl
  have e2' : ((y : Int) + 1) / 2 = (((y + 1) / 2 : Nat) : Int) := rfl
  have hd : 3 + (y + 1) / 2 = Gm.dat y := rfl
  generalize hQ : (y + 1) / 2 = Q at *
  have e3 : IntKind.i64.wrap (3 + (Q : Int)) = 3 + (Q : Int) := IntWalk.i64_in _ (by omega)
  have e4 : IntKind.i64.wrap (Q : Int) = (Q : Int) := IntWalk.i64_in _ (by omega)
  have hbg := fun o' => grow2 w (Obj.cells gz 58) o'
  have og := fun o' => (Own.new w 58 gz).alloc o'
  by_cases h5 : (x : Int) ≤ 3 + (Q : Int)
  · have HE := Lib.hid (show Gm.planE (x : Int) (y : Int) = 10 by unfold Gm.planE; rw [if_neg (by omega), if_pos (by rw [Int.toNat_natCast, ← hd]; omega)])
    clear hd hQ
    go_enter Tryd.func34, Tryd.ntmps34
    go_wp2_with fail
    exact res24 rfl rfl rfl (og _) rfl rfl ⟨.inr ⟨by rw [HE.out]; decide, by rw [HE.out]; rfl⟩, hbg _⟩
  · have hf : Gm.fits x y := ⟨by omega, by omega, by omega, by omega, by rw [← hd]; omega⟩
    have HF := Lib.hid hf
    have hdc : ((Gm.dat y : Nat) : Int) = 3 + (Q : Int) := by rw [← hd]; omega
    have HD := Lib.hid hdc
    clear hd hQ hf hdc
    go_enter Tryd.func34, Tryd.ntmps34
    go_wp2_with fail
    refine res24 (cs := gc x y) rfl rfl rfl ?_ rfl rfl ⟨.inl ⟨x, y, rfl, rfl, HF.out, rfl⟩, ?_⟩
    · unfold gc
      rw [HD.out]
      exact (Own.new w 58 _).alloc _
    · exact grow2 w _ _
set_option maxHeartbeats 1000000 in
theorem rplan_any (b n : Int) (w : World) : Calls Tryd.prog 40 #[.int .i64 b, .int .i64 n] w fun e w' => PlanIs b n e ∧ Below w.heap.size w w' := by
  have o := Own.new w 58 gz
  have hb := grow w (Obj.cells gz 58)
  by_cases h1 : b < 16
  · have HE := Lib.hid (show Gm.planE b n = 2 by unfold Gm.planE; rw [if_pos (.inl h1)])
    skip
    go_enter Tryd.func40, Tryd.ntmps40
    go_wp2_with fail
    exact res24 rfl rfl rfl o rfl rfl ⟨.inr ⟨by rw [HE.out]; decide, by rw [HE.out]; rfl⟩, hb⟩
  by_cases h2 : 223 < b
  · have HE := Lib.hid (show Gm.planE b n = 2 by unfold Gm.planE; rw [if_pos (.inr (.inl h2))])
    skip
    go_enter Tryd.func40, Tryd.ntmps40
    go_wp2_with fail
    exact res24 rfl rfl rfl o rfl rfl ⟨.inr ⟨by rw [HE.out]; decide, by rw [HE.out]; rfl⟩, hb⟩
  by_cases h3 : n < 4
  · have HE := Lib.hid (show Gm.planE b n = 2 by unfold Gm.planE; rw [if_pos (.inr (.inr (.inl h3)))])
    skip
    go_enter Tryd.func40, Tryd.ntmps40
    go_wp2_with fail
    exact res24 rfl rfl rfl o rfl rfl ⟨.inr ⟨by rw [HE.out]; decide, by rw [HE.out]; rfl⟩, hb⟩
  by_cases h4 : 64 < n
  · have HE := Lib.hid (show Gm.planE b n = 2 by unfold Gm.planE; rw [if_pos (.inr (.inr (.inr h4)))])
    skip
    go_enter Tryd.func40, Tryd.ntmps40
    go_wp2_with fail
    exact res24 rfl rfl rfl o rfl rfl ⟨.inr ⟨by rw [HE.out]; decide, by rw [HE.out]; rfl⟩, hb⟩
  obtain ⟨y, rfl⟩ := Int.eq_ofNat_of_zero_le (show 0 ≤ n by omega)
  obtain ⟨x, rfl⟩ := Int.eq_ofNat_of_zero_le (show 0 ≤ b by omega)
  have e1 : IntKind.i64.wrap ((y : Int) + 1) = (y : Int) + 1 := IntWalk.i64_in _ (by omega)
  have e2 : ((y : Int) + 1).tdiv 2 = (((y + 1) / 2 : Nat) : Int) := rfl
  have e2' : ((y : Int) + 1) / 2 = (((y + 1) / 2 : Nat) : Int) := rfl
  have hd : 3 + (y + 1) / 2 = Gm.dat y := rfl
  generalize hQ : (y + 1) / 2 = Q at *
  have e3 : IntKind.i64.wrap (3 + (Q : Int)) = 3 + (Q : Int) := IntWalk.i64_in _ (by omega)
  have e4 : IntKind.i64.wrap (Q : Int) = (Q : Int) := IntWalk.i64_in _ (by omega)
  have hbg := fun o' => grow2 w (Obj.cells gz 58) o'
  have og := fun o' => (Own.new w 58 gz).alloc o'
  by_cases h5 : (x : Int) ≤ 3 + (Q : Int)
  · have HE := Lib.hid (show Gm.planE (x : Int) (y : Int) = 10 by unfold Gm.planE; rw [if_neg (by omega), if_pos (by rw [Int.toNat_natCast, ← hd]; omega)])
    clear hd hQ
    go_enter Tryd.func40, Tryd.ntmps40
    go_wp2_with fail
    exact res24 rfl rfl rfl (og _) rfl rfl ⟨.inr ⟨by rw [HE.out]; decide, by rw [HE.out]; rfl⟩, hbg _⟩
  · have hf : Gm.fits x y := ⟨by omega, by omega, by omega, by omega, by rw [← hd]; omega⟩
    have HF := Lib.hid hf
    have hdc : ((Gm.dat y : Nat) : Int) = 3 + (Q : Int) := by rw [← hd]; omega
    have HD := Lib.hid hdc
    clear hd hQ hf hdc
    go_enter Tryd.func40, Tryd.ntmps40
    go_wp2_with fail
    refine res24 (cs := gc x y) rfl rfl rfl ?_ rfl rfl ⟨.inl ⟨x, y, rfl, rfl, HF.out, rfl⟩, ?_⟩
    · unfold gc
      rw [HD.out]
      exact (Own.new w 58 _).alloc _
    · exact grow2 w _ _

theorem and_one : ∀ x : Fin 256, bits .and .u8 (x.val : Int) 1 = ((x.val % 2 : Nat) : Int) := by decide +kernel
theorem xor_pow : ∀ x : Fin 256, ∀ k : Fin 8, bits .xor .u8 (x.val : Int) ((2 ^ k.val : Nat) : Int) = ((x.val ^^^ 2 ^ k.val : Nat) : Int) := by decide +kernel
theorem bit_val (T : ByteArray) (i : Nat) (h : i / 8 < T.size) : (bits .and .u8 ((T[i / 8].toNat : Int) / 2 ^ (i % 8)) 1 == 1) = Gm.bit (toL T) i := by
  have hx : T[i / 8].toNat < 256 := T[i / 8].toNat_lt
  have hb : (toL T).getD (i / 8) 0 = T[i / 8] := by
    rw [List.getD_eq_getElem?_getD, List.getElem?_eq_getElem (by rw [toL_length]; exact h)]; rfl
  unfold Gm.bit Gm.bitB
  rw [hb]
  generalize T[i / 8].toNat = x at *
  have e : ((x : Int) / 2 ^ (i % 8)) = ((x / 2 ^ (i % 8) : Nat) : Int) := by
    rw [Int.natCast_ediv, Int.natCast_pow]; rfl
  have hq : x / 2 ^ (i % 8) < 256 := Nat.lt_of_le_of_lt (Nat.div_le_self _ _) hx
  rw [e, and_one ⟨_, hq⟩, Nat.testBit_eq_decide_div_mod_eq]
  show ((((x / 2 ^ (i % 8) % 2 : Nat) : Int)) == 1) = decide (x / 2 ^ (i % 8) % 2 = 1)
  by_cases hm : x / 2 ^ (i % 8) % 2 = 1
  · rw [hm]; rfl
  · have : x / 2 ^ (i % 8) % 2 = 0 := by omega
    rw [this]; rfl
theorem taken_any (A : Option Addr) (n c : Nat) (l : List ByteArray) (i : Nat) (w : World) (hl : Ts w A n l) (h2 : 2 < n) (hs : (nth l 2).size = 128) (hi : i < 1024) :
    Calls Tryd.prog 59 #[.slice A n c, .int .i64 (i : Int)] w fun e w' => e = .returned (.bool (Gm.bit (toL (nth l 2)) i)) ∧ w = w' := by
  obtain ⟨b, off, rfl, hc⟩ := hl.2 (by omega)
  have c2 := hc 2 h2
  have h2' : (2 : Int) < (n : Int) := by omega
  generalize nth l 2 = T at *
  have hlt : i / 8 < T.size := by omega
  have HB := Lib.hid (bit_val T i hlt)
  clear hc hl
  go_enter Tryd.func59, Tryd.ntmps59
  go_wp2_with fail
  go_ret
  exact ⟨by rw [← HB.out] <;> rfl, rfl⟩
theorem rbit_any (T : ByteArray) (i : Nat) (w : World) (hs : T.size = 128) (hi : i < 1024) :
    Calls Tryd.prog 43 #[.string T, .int .i64 (i : Int)] w fun e w' => e = .returned (.bool (Gm.bit (toL T) i)) ∧ w = w' := by
  have hlt : i / 8 < T.size := by omega
  have HB := Lib.hid (bit_val T i hlt)
  go_enter Tryd.func43, Tryd.ntmps43
  go_wp2_with fail
  go_ret
  exact ⟨by rw [← HB.out] <;> rfl, rfl⟩
/-- a text whose map's bit is turned -/
def turnT (T : ByteArray) (i : Nat) : ByteArray := ofB (Gm.turn (toL T) i)
theorem toL_turn (T : ByteArray) (i : Nat) : toL (turnT T i) = Gm.turn (toL T) i := toL_of _
theorem turnT_size (T : ByteArray) (i : Nat) : (turnT T i).size = T.size := by rw [← toL_length, toL_turn, Gm.turn_length, toL_length]
/-- so many zeros -/
theorem zs_push (k : Nat) : zs k ++ (⟨#[0]⟩ : ByteArray) = zs (k + 1) := by
  apply toL_inj
  rw [toL_app']
  unfold zs toL
  simp [List.replicate_succ']
theorem zs_size (k : Nat) : (zs k).size = k := by show (Array.replicate k (0 : UInt8)).size = k; simp
theorem zeros_any (k : Nat) (w : World) (hk : k ≤ 1000) : Calls Tryd.prog 57 #[.int .i64 (k : Int)] w fun e w' => e = .returned (.string (zs k)) ∧ w = w' := by
  have h0 : zs 0 = (⟨#[]⟩ : ByteArray) := rfl
  go_enter Tryd.func57, Tryd.ntmps57
  go_wp2_with fail
  go_loop [3, 4] (fun s i => ∃ q : Nat, q ≤ k ∧ i = .int .i64 q ∧ s = .string (zs q)) (fun _ i => k - (intOf i).toNat)
  case atStart => exact ⟨0, Nat.zero_le _, rfl, rfl⟩
  case round =>
    obtain ⟨q, hq, rfl, rfl⟩ := hrel
    by_cases hlt : q < k
    · have hp := Lib.hid (zs_push q)
      have hz := zs_size q
      have y : ¬ 9223372036854775807 < (zs q).size + 1 := by omega
      have hlt' : (q : Int) < (k : Int) := by omega
      generalize zs q = Z at *
      clear hz
      go_wp2_with fail
      go_round
      case rel => exact ⟨q + 1, by omega, by go_num, by rw [← hp.out] <;> rfl⟩
      case measure => simp [intOf]; omega
    · obtain rfl : q = k := by omega
      go_wp2_with fail
      go_ret
      exact ⟨rfl, rfl⟩
end Dw
end Go.Proofs.YtambgmjiafcokaaDoor
