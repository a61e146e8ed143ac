/-
  THE WALKS of the numbers of all inodes that aren't free, by the code and by the document (All).
-/
import Derived.Test.YtambgmjiafcokaaDoorIy
import Derived.Test.YtambgmjiafcokaaDoorRi
namespace Go.Proofs.YtambgmjiafcokaaDoor
set_option linter.unusedVariables false
set_option maxRecDepth 100000
set_option linter.unusedSimpArgs false
open Go.RowKit
namespace Dw
open _root_.Go.Proofs.YtambgmjiafcokaaDoor.Nm
/-- what all answer -/
def AllIs (l : List ByteArray) (B : Nat) (e : Ending) (w' : World) : Prop :=
  ((∀ b m, ¬ Vol l b m) ∧ e = .returned (.slice none 0 0)) ∨
  (∃ b m A' n c', Vol l b m ∧ e = .returned (.slice A' n c') ∧ RI w' B A' n c' (allL l m))
theorem lenOf_slice (A : Option Addr) (n c : Nat) : (Value.slice A n c) = .slice A n c := rfl
theorem RI.monoB {w : World} {B B' n cap : Nat} {A : Option Addr} {l : List Int} (hr : RI w B A n cap l) (hB : B' ≤ B) : RI w B' A n cap l := by
  refine ⟨hr.1, hr.2.1, ?_⟩
  rcases hr.2.2 with h1 | ⟨g', c, cur, h1, h2, h3, h4⟩
  · exact .inl h1
  · exact .inr ⟨g', c, cur, h1, by omega, h3, h4⟩
theorem RI.st27 {w w' : World} {B g n cap : Nat} {A : Option Addr} {l : List Int} {cs : Array Value} (hr : RI w B A n cap l) (h : St g w w') (ho : Nm.Own w g 27 cs) : RI w' B A n cap l := by
  refine ⟨hr.1, hr.2.1, ?_⟩
  have hne := hr.ne ho (by decide)
  rcases hr.2.2 with h1 | ⟨g', c, cur, h1, h2, h3, h4⟩
  · exact .inl h1
  · refine .inr ⟨g', c, cur, h1, h2, (h.block g' (fun e => hne (by subst e; rw [h1]; rfl))).trans h3, h4⟩
set_option maxHeartbeats 4000000 in
theorem all_any (A : Option Addr) (m c : Nat) (l : List ByteArray) (w : World) (hl : Tz w A m c l) (hL : Lit l m) :
    Calls Tryd.prog 14 #[.slice A m c] w fun e w' => AllIs l w.heap.size e w' ∧ Below w.heap.size w w' := by
  obtain ⟨B, hB⟩ : ∃ B, w.heap.size = B := ⟨_, rfl⟩
  go_enter Tryd.func14, Tryd.ntmps14
  go_wp2_with fail
  refine (of_any A m c l _ hl hL).mono ?_
  rintro e w1 ⟨hof, hx⟩
  have og := Nm.Own.new w1 58 gz
  have hb2 := hx.trans ((grow w1 (Obj.cells gz 58)).mono hx.size)
  rcases hof with ⟨b, y, hv, rfl⟩ | ⟨hv, rfl⟩
  · have HV := Lib.hid hv
    go_wp2_with (refine sto24 (cs := gc b y) rfl rfl rfl rfl og (gc_one _ _) gz_one ?_)
    intro w5 o5 s5
    have hb5 := s5.below hb2 hx.size
    have hg0 : B ≤ w1.heap.size := hB ▸ hx.size
    clear hx hb2 og s5
    rw [hB] at hb5
    generalize w1.heap.size = g at *
    have hy := hv.lt
    have hget := fun wr (h : Tz wr A m c l) (j : Nat) (h1 : 1 ≤ j) (h2 : j ≤ y) => get_vol h hv h1 h2 (j : Int) rfl
    clear hv
    go_wp2_with fail
    go_loopw [5, 6] (fun s i wr => ∃ (k : Nat) (A1 : Option Addr) (n1 c1 : Nat), k ≤ y ∧ i = .int .i64 ((k : Int) + 1) ∧ s = .slice A1 n1 c1 ∧ RI wr (g + 1) A1 n1 c1 (allL l k) ∧ Nm.Own wr g 58 (gc b y) ∧ Below B w wr) (fun _ i _ => y + 1 - (intOf i).toNat)
    case atStart => exact ⟨0, none, 0, 0, by omega, rfl, rfl, RI.nil _ _, o5, hb5⟩
    case round =>
      clear o5 hb5
      obtain ⟨k, A1, n1, c1, hk, rfl, rfl, hr5, o5, hb5⟩ := hrel
      have hn1 : n1 ≤ k := by have := hr5.1; have := allL_length l k; omega
      have d1 : wr.cell? ⟨g, 1, none⟩ = some (.int .i64 (y : Int)) := o5.cell 1
      by_cases hlt : k < y
      · have k0 : (k : Int) + 1 ≤ (y : Int) := by omega
        have hl5 := hl.below (hB ▸ hb5)
        have hg := hget wr hl5 (k + 1) (by omega) (by omega)
        have ck : ((k + 1 : Nat) : Int) = (k : Int) + 1 := by omega
        rw [ck] at hg
        have HA := Lib.hid (show allL l (k + 1) = allL l k ++ (if getX l (k + 1) 0 = 0 then [] else [((k + 1 : Nat) : Int)]) from rfl)
        have e3 : IntKind.i64.wrap ((k : Int) + 1 + 1) = (k : Int) + 1 + 1 := IntWalk.i64_in _ (by omega)
        clear hget
        go_wp2_with fail
        refine hg.mono ?_
        rintro e w7 ⟨rfl, hx⟩
        have hr7 := hr5.below hx
        have o7 := o5.below hx
        have hb7 := hb5.trans (hx.mono (hB ▸ hb5.size))
        have hb7s : B ≤ w7.heap.size := (hB ▸ hb7.size)
        have ox := Nm.Own.new w7 27 (ic zX)
        have hgx := grow w7 (Obj.cells (ic zX) 27)
        have hr8 := hr7.below hgx
        have o8 := o7.below hgx
        have hb8 := hb7.trans (hgx.mono (hB ▸ hb7.size))
        have hlt7 := o7.lt
        clear hl5 hr7 o5 o7 hb5 hb7 hx hgx hr5
        go_wp2_with (refine sto27 (X := getX l (k + 1)) rfl rfl rfl rfl ox ?_)
        intro w9 ox9 s9
        have o9 := s9.own o8 (by omega)
        have hb9 := s9.below hb8 hb7s
        have hr9 : RI w9 (g + 1) A1 n1 c1 (allL l k) := hr8.st27 s9 ox
        have cx : w9.cell? ⟨w7.heap.size, 0, none⟩ = some (.int .i64 (getX l (k + 1) 0)) := ox9.cell 0
        have hlt9 := o9.lt
        have hb9s : B ≤ w9.heap.size := (hB ▸ hb9.size)
        clear s9 o8 hb8 hr8 ox ox9
        by_cases hz : getX l (k + 1) 0 = 0
        · rw [hz] at cx
          have HE := Lib.hid (show allL l (k + 1) = allL l k by rw [HA.out, if_pos hz, List.append_nil])
          clear hz
          go_wp2_with fail
          go_roundw
          case rel => exact ⟨k + 1, A1, n1, c1, by omega, by go_num, rfl, by rw [HE.out]; exact hr9, o9, hb9⟩
          case measure => simp [intOf]; omega
        · have hz1 : (getX l (k + 1) 0 != 0) = true := by simp [hz]
          have HE := Lib.hid (show allL l (k + 1) = allL l k ++ [(k : Int) + 1] by rw [HA.out, if_neg hz, ck])
          have hgx := grow w9 (Obj.cells #[.int .i64 ((k : Int) + 1)] 3)
          have hr10 := hr9.below hgx
          have o10 := o9.below hgx
          have hb10 := hb9.trans (hgx.mono (hB ▸ hb9.size))
          have hb10s : g + 1 ≤ (w9.alloc (Obj.cells #[.int .i64 ((k : Int) + 1)] 3)).heap.size := by have := hgx.size; omega
          have cz := own1 w9 (.int .i64 ((k : Int) + 1)) 3
          clear hr9 o9 hb9 hgx
          go_wp2_with (at_builtin; refine app_int rfl _ _ rfl (g + 1) _ _ _ _ rfl hr10 _ ((k : Int) + 1) _ rfl cz (by omega) hb10s _ rfl ?_)
          intro g2 cap2 w11 hr11 hgr hor hx11
          have o11 := (hx11.block g (by omega)).trans o10
          have hb11 := hb10.trans (hx11.mono (by omega))
          clear hr10 o10 hb10 cz hgr hx11
          go_wp2_with fail
          go_roundw
          case rel => exact ⟨k + 1, some ⟨g2, 0, none⟩, n1 + 1, cap2, by omega, by go_num, rfl, by rw [HE.out]; exact hr11, o11, hb11⟩
          case measure => simp [intOf]; omega
      · obtain rfl : k = y := by omega
        have k0 : ¬ (k : Int) + 1 ≤ (k : Int) := by omega
        have HR := Lib.hid (RI.monoB hr5 (show B ≤ g + 1 by omega))
        clear hget
        go_wp2_with fail
        go_ret
        exact ⟨.inr ⟨b, k, A1, n1, c1, HV.out, rfl, by first | exact HR.out | (rw [hB]; exact HR.out)⟩, by first | exact hb5 | (rw [hB]; exact hb5)⟩
  · have HV := Lib.hid hv
    clear hv
    go_wp2_with (refine sto24 (cs := gz) rfl rfl rfl rfl og gz_one gz_one ?_)
    intro w5 o5 s5
    have hb5 := s5.below hb2 hx.size
    clear hx hb2 og s5
    generalize w1.heap.size = g at *
    have d1 : w5.cell? ⟨g, 1, none⟩ = some (.int .i64 0) := o5.cell 1
    go_wp2_with fail
    go_loopw [5, 6] (fun s i wr => i = .int .i64 1 ∧ s = .slice none 0 0 ∧ Nm.Own wr g 58 gz ∧ Below w.heap.size w wr) (fun _ _ _ => 0)
    case atStart => exact ⟨rfl, rfl, o5, hb5⟩
    case round =>
      clear o5 hb5 d1
      obtain ⟨rfl, rfl, o5, hb5⟩ := hrel
      have d1 : wr.cell? ⟨g, 1, none⟩ = some (.int .i64 0) := o5.cell 1
      go_wp2_with fail
      go_ret
      exact ⟨.inl ⟨HV.out, rfl⟩, hb5⟩
set_option maxHeartbeats 4000000 in
theorem rall_any (A : Option Addr) (m c : Nat) (l : List ByteArray) (w : World) (hl : Tz w A m c l) (hL : Lit l m) :
    Calls Tryd.prog 15 #[.slice A m c] w fun e w' => AllIs l w.heap.size e w' ∧ Below w.heap.size w w' := by
  obtain ⟨B, hB⟩ : ∃ B, w.heap.size = B := ⟨_, rfl⟩
  go_enter Tryd.func15, Tryd.ntmps15
  go_wp2_with fail
  refine (rof_any A m c l _ hl hL).mono ?_
  rintro e w1 ⟨hof, hx⟩
  have og := Nm.Own.new w1 58 gz
  have hb2 := hx.trans ((grow w1 (Obj.cells gz 58)).mono hx.size)
  rcases hof with ⟨b, y, hv, rfl⟩ | ⟨hv, rfl⟩
  · have HV := Lib.hid hv
    go_wp2_with (refine sto24 (cs := gc b y) rfl rfl rfl rfl og (gc_one _ _) gz_one ?_)
    intro w5 o5 s5
    have hb5 := s5.below hb2 hx.size
    have hg0 : B ≤ w1.heap.size := hB ▸ hx.size
    clear hx hb2 og s5
    rw [hB] at hb5
    generalize w1.heap.size = g at *
    have hy := hv.lt
    have hget := fun wr (h : Tz wr A m c l) (j : Nat) (h1 : 1 ≤ j) (h2 : j ≤ y) => rget_vol h hv h1 h2 (j : Int) rfl
    clear hv
    go_wp2_with fail
    go_loopw [5, 6] (fun s i wr => ∃ (k : Nat) (A1 : Option Addr) (n1 c1 : Nat), k ≤ y ∧ i = .int .i64 ((k : Int) + 1) ∧ s = .slice A1 n1 c1 ∧ RI wr (g + 1) A1 n1 c1 (allL l k) ∧ Nm.Own wr g 58 (gc b y) ∧ Below B w wr) (fun _ i _ => y + 1 - (intOf i).toNat)
    case atStart => exact ⟨0, none, 0, 0, by omega, rfl, rfl, RI.nil _ _, o5, hb5⟩
    case round =>
      clear o5 hb5
      obtain ⟨k, A1, n1, c1, hk, rfl, rfl, hr5, o5, hb5⟩ := hrel
      have hn1 : n1 ≤ k := by have := hr5.1; have := allL_length l k; omega
      have d1 : wr.cell? ⟨g, 1, none⟩ = some (.int .i64 (y : Int)) := o5.cell 1
      by_cases hlt : k < y
      · have k0 : (k : Int) + 1 ≤ (y : Int) := by omega
        have hl5 := hl.below (hB ▸ hb5)
        have hg := hget wr hl5 (k + 1) (by omega) (by omega)
        have ck : ((k + 1 : Nat) : Int) = (k : Int) + 1 := by omega
        rw [ck] at hg
        have HA := Lib.hid (show allL l (k + 1) = allL l k ++ (if getX l (k + 1) 0 = 0 then [] else [((k + 1 : Nat) : Int)]) from rfl)
        have e3 : IntKind.i64.wrap ((k : Int) + 1 + 1) = (k : Int) + 1 + 1 := IntWalk.i64_in _ (by omega)
        clear hget
        go_wp2_with fail
        refine hg.mono ?_
        rintro e w7 ⟨rfl, hx⟩
        have hr7 := hr5.below hx
        have o7 := o5.below hx
        have hb7 := hb5.trans (hx.mono (hB ▸ hb5.size))
        have hb7s : B ≤ w7.heap.size := (hB ▸ hb7.size)
        have ox := Nm.Own.new w7 27 (ic zX)
        have hgx := grow w7 (Obj.cells (ic zX) 27)
        have hr8 := hr7.below hgx
        have o8 := o7.below hgx
        have hb8 := hb7.trans (hgx.mono (hB ▸ hb7.size))
        have hlt7 := o7.lt
        clear hl5 hr7 o5 o7 hb5 hb7 hx hgx hr5
        go_wp2_with (refine sto27 (X := getX l (k + 1)) rfl rfl rfl rfl ox ?_)
        intro w9 ox9 s9
        have o9 := s9.own o8 (by omega)
        have hb9 := s9.below hb8 hb7s
        have hr9 : RI w9 (g + 1) A1 n1 c1 (allL l k) := hr8.st27 s9 ox
        have cx : w9.cell? ⟨w7.heap.size, 0, none⟩ = some (.int .i64 (getX l (k + 1) 0)) := ox9.cell 0
        have hlt9 := o9.lt
        have hb9s : B ≤ w9.heap.size := (hB ▸ hb9.size)
        clear s9 o8 hb8 hr8 ox ox9
        by_cases hz : getX l (k + 1) 0 = 0
        · rw [hz] at cx
          have HE := Lib.hid (show allL l (k + 1) = allL l k by rw [HA.out, if_pos hz, List.append_nil])
          clear hz
          go_wp2_with fail
          go_roundw
          case rel => exact ⟨k + 1, A1, n1, c1, by omega, by go_num, rfl, by rw [HE.out]; exact hr9, o9, hb9⟩
          case measure => simp [intOf]; omega
        · have hz1 : (getX l (k + 1) 0 != 0) = true := by simp [hz]
          have HE := Lib.hid (show allL l (k + 1) = allL l k ++ [(k : Int) + 1] by rw [HA.out, if_neg hz, ck])
          have hgx := grow w9 (Obj.cells #[.int .i64 ((k : Int) + 1)] 3)
          have hr10 := hr9.below hgx
          have o10 := o9.below hgx
          have hb10 := hb9.trans (hgx.mono (hB ▸ hb9.size))
          have hb10s : g + 1 ≤ (w9.alloc (Obj.cells #[.int .i64 ((k : Int) + 1)] 3)).heap.size := by have := hgx.size; omega
          have cz := own1 w9 (.int .i64 ((k : Int) + 1)) 3
          clear hr9 o9 hb9 hgx
          go_wp2_with (at_builtin; refine app_int rfl _ _ rfl (g + 1) _ _ _ _ rfl hr10 _ ((k : Int) + 1) _ rfl cz (by omega) hb10s _ rfl ?_)
          intro g2 cap2 w11 hr11 hgr hor hx11
          have o11 := (hx11.block g (by omega)).trans o10
          have hb11 := hb10.trans (hx11.mono (by omega))
          clear hr10 o10 hb10 cz hgr hx11
          go_wp2_with fail
          go_roundw
          case rel => exact ⟨k + 1, some ⟨g2, 0, none⟩, n1 + 1, cap2, by omega, by go_num, rfl, by rw [HE.out]; exact hr11, o11, hb11⟩
          case measure => simp [intOf]; omega
      · obtain rfl : k = y := by omega
        have k0 : ¬ (k : Int) + 1 ≤ (k : Int) := by omega
        have HR := Lib.hid (RI.monoB hr5 (show B ≤ g + 1 by omega))
        clear hget
        go_wp2_with fail
        go_ret
        exact ⟨.inr ⟨b, k, A1, n1, c1, HV.out, rfl, by first | exact HR.out | (rw [hB]; exact HR.out)⟩, by first | exact hb5 | (rw [hB]; exact hb5)⟩
  · have HV := Lib.hid hv
    clear hv
    go_wp2_with (refine sto24 (cs := gz) rfl rfl rfl rfl og gz_one gz_one ?_)
    intro w5 o5 s5
    have hb5 := s5.below hb2 hx.size
    clear hx hb2 og s5
    generalize w1.heap.size = g at *
    have d1 : w5.cell? ⟨g, 1, none⟩ = some (.int .i64 0) := o5.cell 1
    go_wp2_with fail
    go_loopw [5, 6] (fun s i wr => i = .int .i64 1 ∧ s = .slice none 0 0 ∧ Nm.Own wr g 58 gz ∧ Below w.heap.size w wr) (fun _ _ _ => 0)
    case atStart => exact ⟨rfl, rfl, o5, hb5⟩
    case round =>
      clear o5 hb5 d1
      obtain ⟨rfl, rfl, o5, hb5⟩ := hrel
      have d1 : wr.cell? ⟨g, 1, none⟩ = some (.int .i64 0) := o5.cell 1
      go_wp2_with fail
      go_ret
      exact ⟨.inl ⟨HV.out, rfl⟩, hb5⟩
end Dw
end Go.Proofs.YtambgmjiafcokaaDoor
