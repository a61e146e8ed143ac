/-
  For every two fronts, tail and cuts RollTails answers true: what ends alike, and is cut at one place of that, is cut alike behind it; the arguments read as before.
-/
import Derived.Test.YtingpadjciohjaaRows
import Derived.Test.YtingpadjciohjaaOk
import Derived.WalkKit
import Derived.ProofKit
import Derived.OpenShut
import Derived.ShutString
import Derived.SizedLaws
import Derived.Maps.Views
import Derived.RegionTactic
import Derived.BigRegion
import Derived.BigQuiet
import Derived.Deep.RegionHeld3
import Derived.Deep.RegionWith
import Derived.Maps.Own
import Derived.Maps.OwnOps
import Derived.Maps.OwnSet
import Derived.Test.YtingpadjciohjaaJn
import Derived.Test.YtingpadjciohjaaTl
namespace Go.Proofs.Ytingpadjciohjaa.rollTails
open Go.ChangeShapes Go.WideShapes Go.ChangeAt Go.RowKit
open Go.ChangeMaps (open_string shut_string)
open _root_.Go.Proofs.Ytingpadjciohjaa.Nm
open Go.Maps
set_option linter.unusedVariables false
set_option linter.unusedSimpArgs false

theorem own : ownKnob Try.prog.godebug = none := by kernel_rfl
theorem cells9 : Try.prog.cellsOf 9 = 1 := by kernel_rfl
theorem okTwo {W : World} {base : Nat} {v : Value} (h : Value.okWide Try.prog W .any base 37 v) : ∃ x y : ByteArray, v = .agg #[.string x, .string y] := by
  simp only [Value.okWide, Try.underlying37] at h
  obtain ⟨cs, rfl, hsz, ts, hts', _, hcell⟩ := h
  rw [show Try.prog.cellTypes Try.prog.depth 37 = some [9, 9] from by kernel_rfl] at hts'
  cases hts'
  have hs : cs.size = 2 := by rw [hsz]; kernel_rfl
  have get : ∀ i, i < 2 → ∃ s : ByteArray, cs[i]? = some (.string s) := fun i hi => by
    have hlt : i < cs.size := by omega
    have hu : ([9, 9] : List TypeId)[i % 2]? = some 9 := by rcases (by omega : i = 0 ∨ i = 1) with rfl | rfl <;> rfl
    obtain ⟨u, hu', hc⟩ := hcell i cs[i] (by simp [hlt])
    obtain rfl : u = 9 := by simpa [hu] using hu'.symm
    unfold Cell.okWide at hc
    rw [Try.underlying9] at hc
    cases hx : cs[i] <;> rw [hx] at hc <;> simp only [Cell.ok, Try.underlying9] at hc
    rename_i s
    exact ⟨s, by simp [hlt, hx]⟩
  obtain ⟨x, e0⟩ := get 0 (by omega)
  obtain ⟨y, e1⟩ := get 1 (by omega)
  refine ⟨x, y, ?_⟩
  congr 1
  apply Array.ext_getElem?
  intro i
  rcases (by omega : i = 0 ∨ i = 1 ∨ 2 ≤ i) with rfl | rfl | hi
  · exact e0
  · exact e1
  · rw [Array.getElem?_eq_none (by omega), Array.getElem?_eq_none (by simpa using hi)]
theorem two_sized {H : Type} {enc : TypeId × Value → H} {W : World} {ts : List TypeId} {ds : List (DataW H)} (hsz : (DataW.weightsEach Try.prog ts ds).all (· ≤ reachBytes) = true) {j : Nat} {d : DataW H} {p : List MemPlace} {x y : ByteArray}
    (ht : ts[j]? = some 37) (hd : ds[j]? = some d) (h : DataW.Trod enc Try.prog W 0 (fun _ => true) true 37 (.agg #[.string x, .string y]) d p) : x.size ≤ 1000000000000000000 ∧ y.size ≤ 1000000000000000000 := by
  obtain ⟨fuel, hf⟩ := h
  cases fuel with
  | zero => simp [DataW.trod] at hf
  | succ fuel =>
    rw [show (Value.agg #[.string x, .string y]).cells.toList = [.string x, .string y] from rfl] at hf
    unfold DataW.trod at hf
    simp only [Try.underlying37, cells9, show Try.prog.cellsOf 37 = 2 from by kernel_rfl] at hf
    cases fuel with
    | zero => simp [DataW.trod, List.range_succ] at hf
    | succ fuel =>
      by_cases hx : x.size ≤ maxLen
      · by_cases hy : y.size ≤ maxLen
        · simp [DataW.trod, List.range_succ, Try.underlying9, hx, hy] at hf
          obtain ⟨rfl, rfl⟩ := hf
          have m : ∀ n ∈ [x.size, y.size], n ≤ reachBytes := fun n hn => by
            have := List.all_eq_true.1 hsz n (DataW.weights_mem_each ht hd n (by simpa [DataW.weights, Try.underlying37, DataW.weightsAll] using hn))
            simpa using this
          have := reachBytes_lt
          have a := m _ (by simp : x.size ∈ [x.size, y.size])
          have b := m _ (by simp : y.size ∈ [x.size, y.size])
          omega
        · simp [DataW.trod, List.range_succ, Try.underlying9, hx, hy] at hf
      · simp [DataW.trod, List.range_succ, Try.underlying9, hx] at hf
theorem str_sized {H : Type} {ts : List TypeId} {ds : List (DataW H)} (hsz : (DataW.weightsEach Try.prog ts ds).all (· ≤ reachBytes) = true) {j : Nat} {x : ByteArray}
    (ht : ts[j]? = some 9) (hd : ds[j]? = some (.lit (.string x.data.toList))) : x.size ≤ 1000000000000000000 := by
  have := sized_string hsz ht hd
  have := reachBytes_lt
  have e : x.data.toList.length = x.size := by rw [Array.length_toList]; rfl
  omega
theorem own_below {W V : World} {g : Nat} {t : TypeId} {cs : Array Value} (h : Own W g t cs) (hb : Below W.heap.size W V) : Own V g t cs := (hb.block g h.lt).trans h
theorem own_four {W : World} {g : Nat} {w lo hi : Int} {m : Nat} (h : Own W g 24 (cc w lo hi m)) : W.cell? ⟨g, 0, none⟩ = some (.int .i64 w) ∧ W.cell? ⟨g, 1, none⟩ = some (.int .i64 lo) ∧ W.cell? ⟨g, 2, none⟩ = some (.int .i64 hi) ∧ W.cell? ⟨g, 3, none⟩ = some (.int .u32 (m : Nat)) := ⟨h.cell 0, h.cell 1, h.cell 2, h.cell 3⟩
set_option maxRecDepth 100000 in
set_option maxHeartbeats 4000000 in
theorem walk (F G T : ByteArray) (w lo hi : Int) (m : Nat) (hF : F.size ≤ 1000000000000000000) (hG : G.size ≤ 1000000000000000000) (hT : T.size ≤ 1000000000000000000) (hm : m < 4294967296) (W : World) :
    Calls Try.prog 6 #[.agg #[.string F, .string G], .string T, .agg (cc w lo hi m)] W fun e w' => e = .returned (.bool true) ∧ Below W.heap.size W w' := by
  have of := (Own.new W 37 #[.string F, .string G]).alloc (Obj.cells (cc w lo hi m) 24)
  have ow := Own.new (W.alloc (Obj.cells #[.string F, .string G] 37)) 24 (cc w lo hi m)
  have bW : Below W.heap.size W ((W.alloc (Obj.cells #[.string F, .string G] 37)).alloc (Obj.cells (cc w lo hi m) 24)) := (grow W _).alloc (by rw [show (W.alloc (Obj.cells #[.string F, .string G] 37)).heap.size = W.heap.size + 1 from Array.size_push ..]; omega) _
  rw [show (W.alloc (Obj.cells #[.string F, .string G] 37)).heap.size = W.heap.size + 1 from Array.size_push ..] at ow
  by_cases hbig : 5000 < F.size + G.size + T.size
  · have d0 : 5000 < (F.size : Int) + (G.size : Int) + (T.size : Int) := by omega
    have e0 : IntKind.i64.wrap ((F.size : Int) + (G.size : Int)) = (F.size : Int) + (G.size : Int) := IntWalk.i64_in _ (by omega)
    have e1 : IntKind.i64.wrap ((F.size : Int) + (G.size : Int) + (T.size : Int)) = (F.size : Int) + (G.size : Int) + (T.size : Int) := IntWalk.i64_in _ (by omega)
    go_enter Try.func6, Try.ntmps6
    go_wp2_with fail
    refine (alive_any _).mono ?_
    rintro e w1 ⟨rfl, hb⟩
    replace of := own_below of hb
    replace ow := own_below ow hb
    replace bW := bW.trans (hb.mono bW.size)
    clear hb
    have x0 := of.cell 0
    have x1 := of.cell 1
    simp at x0 x1
    obtain ⟨k0, k1, k2, k3⟩ := own_four ow
    go_wp2_with fail
    go_ret
    exact ⟨rfl, bW⟩
  · have d0 : ¬ (5000 < (F.size : Int) + (G.size : Int) + (T.size : Int)) := by omega
    have hs : F.size + G.size + T.size ≤ 5000 := by omega
    have y1 : (F ++ T).size ≤ 5000 := by rw [ByteArray.size_append]; omega
    have y2 : (G ++ T).size ≤ 5000 := by rw [ByteArray.size_append]; omega
    have h1 := fun wr => cutI_any (F ++ T) w lo hi m hm (by omega) wr
    have h2 := fun wr => cutI_any (G ++ T) w lo hi m hm (by omega) wr
    have hl1 := li_len (F ++ T) w lo hi m
    have hl2 := li_len (G ++ T) w lo hi m
    clear hbig
    unfold CutP at h1 h2
    have hmm := @run_makeMap Try.prog
    by_cases hf : fitI w lo hi
    · rw [chk_yes hf] at h1 h2
      have HF := Lib.hid hf
      clear hf
      go_enter Try.func6, Try.ntmps6
      go_wp2_with fail
      refine (alive_any _).mono ?_
      rintro e w1 ⟨rfl, hb⟩
      replace of := own_below of hb
      replace ow := own_below ow hb
      replace bW := bW.trans (hb.mono bW.size)
      clear hb
      have x0 := of.cell 0
      have x1 := of.cell 1
      simp at x0 x1
      obtain ⟨k0, k1, k2, k3⟩ := own_four ow
      go_wp2_with fail
      refine (h1 _).mono ?_
      rintro e w2 ⟨A, cap, l, rfl, hts, hl, hb, hcp⟩
      replace of := own_below of hb
      replace ow := own_below ow hb
      replace bW := bW.trans (hb.mono bW.size)
      clear hb x0 x1 k0 k1 k2 k3 h1
      have x1 := of.cell 1
      simp at x1
      obtain ⟨k0, k1, k2, k3⟩ := own_four ow
      go_wp2_with fail
      refine (h2 _).mono ?_
      rintro e w3 ⟨A1, cap1, l1, rfl, hts1, hl1', hb, hcp1⟩
      replace bW := bW.trans (hb.mono bW.size)
      replace hts := Ts.below hts hb
      clear hb h2
      have zl := sz_le _ w lo hi m HF.out l hl
      have zl1 := sz_le _ w lo hi m HF.out l1 hl1'
      have zp := sizes_pos _ w lo hi m HF.out l1 hl1'
      have te := tails_eq F G T w lo hi m HF.out l l1 hl hl1'
      rw [← hl, List.length_map] at hl1
      rw [← hl1', List.length_map] at hl2
      have n1 : l.length ≤ 5000 := by omega
      have n2 : l1.length ≤ 5000 := by omega
      have Z := Lib.hid (And.intro zl (And.intro zl1 (And.intro zp te)))
      clear zl zl1 zp te hl hl1' hl1 hl2 k0 k1 k2 k3 x1 of ow
      have q0 : (l.length : Int) ≤ 5000 := by omega
      have q1 : (l1.length : Int) ≤ 5000 := by omega
      have mz : (0 : Int) = ((sz l l.length : Nat) : Int) := by rw [sz_end]; rfl
      have mz1 : (0 : Int) = ((sz l1 l1.length : Nat) : Int) := by rw [sz_end]; rfl
      have MZ := Lib.hid (And.intro mz mz1)
      clear mz mz1
      go_wp2_with fail
      go_loopw [12, 13] (fun s i wr => ∃ (k : Nat) (D : DataW Unit), k ≤ l.length ∧ s = .int .i64 (sz l k : Nat) ∧ i = .int .i64 ((k : Int) - 1) ∧ wr.ownsMap Try.prog 3 (plainElem Try.prog 3) w3.heap.size (l.length - k) D ∧ Ends l D ∧ Below w3.heap.size w3 wr)
        (fun _ i _ => (intOf i + 1).toNat)
      case atStart => exact ⟨l.length, .map [], Nat.le_refl _, congrArg _ MZ.out.1, rfl, by rw [Nat.sub_self]; exact World.ownsMap_made _ _ _ _, ends_nil _, (Below.refl _ _).alloc (Nat.le_refl _) _⟩
      case round =>
        obtain ⟨k, D, hk, rfl, rfl, hown, hE, hnx⟩ := hrel
        have ht := Ts.below hts hnx
        rcases k with _ | j
        · have ei : ((0 : Nat) : Int) - 1 = -1 := rfl
          rw [ei]
          obtain ⟨w4, hw4⟩ : ∃ w4, w4 = wr := ⟨_, rfl⟩
          subst hw4
          have ht1 := Ts.below hts1 hnx
          replace bW := bW.trans (hnx.mono bW.size)
          have KK := Lib.hid (And.intro ht (And.intro ht1 bW))
          clear ht ht1 bW hts hts1 hnx hmm
          have hlt3 := hown.lt
          go_wp2_with fail
          go_loopw [12, 14] (fun s i wr => ∃ k : Nat, k ≤ l1.length ∧ s = .int .i64 (sz l1 k : Nat) ∧ i = .int .i64 ((k : Int) - 1) ∧ Dr w4 wr)
            (fun _ i _ => (intOf i + 1).toNat)
          case atStart => exact ⟨l1.length, Nat.le_refl _, congrArg _ MZ.out.2, rfl, Dr.refl _⟩
          case round =>
            obtain ⟨k, hk, rfl, rfl, hd⟩ := hrel
            have hownv : wr.ownsMap Try.prog 3 (plainElem Try.prog 3) w3.heap.size (l.length - 0) D := by obtain ⟨q, rfl⟩ := hd; exact hown
            have htv := KK.out.1.dr hd
            have ht1v := KK.out.2.1.dr hd
            have bWv := below_dr KK.out.2.2 hd
            rcases k with _ | j
            · have ej : ((0 : Nat) : Int) - 1 = -1 := rfl
              rw [ej]
              go_wp2_with fail
              go_ret
              exact ⟨rfl, bWv⟩
            · have ej : ((j + 1 : Nat) : Int) - 1 = (j : Int) := by omega
              rw [ej]
              obtain ⟨b1, off1, rfl, hc⟩ := ht1v.2 (by omega)
              have c1 := hc j (by omega)
              have l0 : (j : Int) < (l1.length : Int) := by omega
              have hst := sz_step l1 j (by omega)
              have hle := Z.out.2.1 j
              have hps := Z.out.2.2.1 j (by omega)
              have htl := fun i he ht => Z.out.2.2.2 i j he ht
              generalize nth l1 j = x at *
              generalize sz l1 (j + 1) = s1 at *
              have es : (s1 : Int) + (x.size : Int) = ((sz l1 j : Nat) : Int) := by omega
              have hsp : 1 ≤ sz l1 j := by omega
              have HS := Lib.hid (And.intro hle (And.intro hsp htl))
              clear hc hst hle hps hsp htl
              generalize hs0 : sz l1 j = s0 at *
              have wx : IntKind.i64.wrap (s0 : Int) = (s0 : Int) := IntWalk.i64_in _ (by have := HS.out.1; omega)
              have hkey : keyOf Try.prog 3 (.int .i64 (s0 : Int)) = some (.int .i64 (s0 : Int)) := keyOf_int_mk Try.underlying3 (WalkArith.wf_i64 (by have := HS.out.1; omega))
              by_cases hgt : T.size < s0
              · go_wp2_with fail
                go_ret
                exact ⟨rfl, bWv⟩
              · by_cases hh : Maps.has D (.int .i64 (s0 : Int)) = true
                · obtain ⟨i, hi, hv, hx⟩ := hE.2 _ hh
                  have hx' : s0 = sz l i := by omega
                  have hil : i < l.length := by
                    rcases Nat.lt_or_ge i l.length with h | h
                    · exact h
                    · obtain rfl : i = l.length := by omega
                      rw [sz_end] at hx'
                      have := HS.out.2.1
                      omega
                  have heq := HS.out.2.2 i hx'.symm (by omega)
                  obtain ⟨b, off, rfl, -⟩ := htv.2 (by omega)
                  have hq := same_any (some ⟨b, off + i, none⟩) (some ⟨b1, off1 + j, none⟩) (l.length - i) (cap - i) (l1.length - j) (cap1 - j) (l.drop i) (l1.drop j) wr.drew (Ts.drew (Ts.dropN htv i (by omega))) (Ts.drew (Ts.dropN ht1v j (by omega))) (by omega) (by omega)
                  rw [decide_eq_true heq] at hq
                  have i0 : (0 : Int) ≤ (i : Int) := by omega
                  have i1 : (i : Int) ≤ (l.length : Int) := by omega
                  have i2 : (l.length : Int) ≤ (cap : Int) := by omega
                  have i3 : ¬ (cap = i) := by omega
                  have j0 : (0 : Int) ≤ (j : Int) := by omega
                  have j1 : (j : Int) ≤ (l1.length : Int) := by omega
                  have j2 : (l1.length : Int) ≤ (cap1 : Int) := by omega
                  have j3 : ¬ (cap1 = j) := by omega
                  clear heq hx hx' hi
                  go_wp2_with (first
                    | (at_lookup; refine wpList_lookup_own_ok_int _ rfl _ _ 38 rfl 3 3 .i64 law3 Try.underlying38 Try.underlying3 (zero3 _) w3.heap.size _ _ rfl hownv _ _ rfl hkey ?_; intro c hat hwc; rw [hv] at hat; obtain rfl : c = (i : Int) := by simpa using hat.symm))
                  refine wp_region_any (by kernel_rfl) ?_
                  change wpAny _ _ _ _ _ _ _ (World.drew _)
                  refine wpAny_take (i := 0) (v := ?_) rfl (by kernel_rfl) (by kernel_rfl) (by kernel_rfl) (fun _ _ _ h => h) (Or.inl ⟨by kernel_rfl, ?_⟩) ?_
                  rotate_left
                  · intro w; go_simp; try with_reducible rfl
                  refine wpAny_take (i := 1) (v := ?_) rfl (by kernel_rfl) (by kernel_rfl) (by kernel_rfl) (fun _ _ _ h => h) (Or.inl ⟨by kernel_rfl, ?_⟩) ?_
                  rotate_left
                  · intro w; go_simp; try with_reducible rfl
                  refine wpAny_take (i := 2) (v := ?_) rfl (by kernel_rfl) (by kernel_rfl) (by kernel_rfl) (fun _ _ _ h => h) (Or.inl ⟨by kernel_rfl, ?_⟩) ?_
                  rotate_left
                  · intro w; go_simp; try with_reducible rfl
                  refine wpAny_take (i := 3) (v := ?_) rfl (by kernel_rfl) (by kernel_rfl) (by kernel_rfl) (fun _ _ _ h => h) (Or.inl ⟨by kernel_rfl, ?_⟩) ?_
                  rotate_left
                  · intro w; go_simp; try with_reducible rfl
                  refine wpAny_take (i := 4) (v := ?_) rfl (by kernel_rfl) (by kernel_rfl) (by kernel_rfl) (fun _ _ _ h => h) (Or.inl ⟨by kernel_rfl, ?_⟩) ?_
                  rotate_left
                  · intro w; go_simp; try with_reducible rfl
                  refine wpAny_take (i := 5) (v := ?_) rfl (by kernel_rfl) (by kernel_rfl) (by kernel_rfl) (fun _ _ _ h => h) (Or.inl ⟨by kernel_rfl, ?_⟩) ?_
                  rotate_left
                  · intro w; go_simp; try with_reducible rfl
                  refine wpAny_take (i := 6) (v := ?_) rfl (by kernel_rfl) (by kernel_rfl) (by kernel_rfl) (fun _ _ _ h => h) (Or.inl ⟨by kernel_rfl, ?_⟩) ?_
                  rotate_left
                  · intro w; go_simp; try with_reducible rfl
                  refine wpAny_take (i := 7) (v := ?_) rfl (by kernel_rfl) (by kernel_rfl) (by kernel_rfl) (fun _ _ _ h => h) (Or.inl ⟨by kernel_rfl, ?_⟩) ?_
                  rotate_left
                  · intro w; go_simp; try with_reducible rfl
                  refine wpAny_ready (rs := [8]) (by kernel_rfl) (by simp) ?_
                  refine AllReady.cons rfl (fun K hK => ?_) AllReady.nil
                  go_simp
                  go_wp2_with (first | (go_at_call 12; refine hq.mono ?_; rintro e w6 ⟨rfl, hd6⟩))
                  refine wpAny_take (i := 9) (v := ?_) rfl (by kernel_rfl) (by kernel_rfl) (by kernel_rfl) (fun _ _ _ h => h) (Or.inl ⟨by kernel_rfl, ?_⟩) ?_
                  rotate_left
                  · intro w; go_simp; try with_reducible rfl
                  refine wpAny_take (i := 10) (v := ?_) rfl (by kernel_rfl) (by kernel_rfl) (by kernel_rfl) (fun _ _ _ h => h) (Or.inl ⟨by kernel_rfl, ?_⟩) ?_
                  rotate_left
                  · intro w; go_simp; try with_reducible rfl
                  refine wpAny_done (by kernel_rfl) ?_ _
                  simp only [Act.put, List.getElem_toArray, List.getElem_cons_zero, List.getElem_cons_succ, List.setIfInBounds_toArray, List.set_cons_zero, List.set_cons_succ]
                  go_wp2_with fail
                  go_roundw
                  case rel => exact ⟨j, by omega, by rw [hs0], rfl, hd.drew.trans hd6⟩
                  case measure => first | (simp [intOf]; done) | (simp [intOf]; omega)
                · have hh' : Maps.has D (.int .i64 (s0 : Int)) = false := by simpa using hh
                  clear hh
                  go_wp2_with (first
                    | (at_lookup; refine wpList_lookup_own_ok_int _ rfl _ _ 38 rfl 3 3 .i64 law3 Try.underlying38 Try.underlying3 (zero3 _) w3.heap.size _ _ rfl hownv _ _ rfl hkey ?_; intro c hat hwc))
                  refine wp_region_any (by kernel_rfl) ?_
                  change wpAny _ _ _ _ _ _ _ (World.drew _)
                  refine wpAny_take (i := 0) (v := ?_) rfl (by kernel_rfl) (by kernel_rfl) (by kernel_rfl) (fun _ _ _ h => h) (Or.inl ⟨by kernel_rfl, ?_⟩) ?_
                  rotate_left
                  · intro w; go_simp; try with_reducible rfl
                  refine wpAny_take (i := 1) (v := ?_) rfl (by kernel_rfl) (by kernel_rfl) (by kernel_rfl) (fun _ _ _ h => h) (Or.inl ⟨by kernel_rfl, ?_⟩) ?_
                  rotate_left
                  · intro w; go_simp; try with_reducible rfl
                  refine wpAny_take (i := 2) (v := undef) rfl (by kernel_rfl) (by kernel_rfl) (by kernel_rfl) (fun _ _ _ h => h) (Or.inr ⟨by kernel_rfl, rfl⟩) ?_
                  refine wpAny_take (i := 3) (v := undef) rfl (by kernel_rfl) (by kernel_rfl) (by kernel_rfl) (fun _ _ _ h => h) (Or.inr ⟨by kernel_rfl, rfl⟩) ?_
                  refine wpAny_take (i := 4) (v := undef) rfl (by kernel_rfl) (by kernel_rfl) (by kernel_rfl) (fun _ _ _ h => h) (Or.inr ⟨by kernel_rfl, rfl⟩) ?_
                  refine wpAny_take (i := 5) (v := undef) rfl (by kernel_rfl) (by kernel_rfl) (by kernel_rfl) (fun _ _ _ h => h) (Or.inr ⟨by kernel_rfl, rfl⟩) ?_
                  refine wpAny_take (i := 6) (v := undef) rfl (by kernel_rfl) (by kernel_rfl) (by kernel_rfl) (fun _ _ _ h => h) (Or.inr ⟨by kernel_rfl, rfl⟩) ?_
                  refine wpAny_take (i := 7) (v := undef) rfl (by kernel_rfl) (by kernel_rfl) (by kernel_rfl) (fun _ _ _ h => h) (Or.inr ⟨by kernel_rfl, rfl⟩) ?_
                  refine wpAny_take (i := 8) (v := undef) rfl (by kernel_rfl) (by kernel_rfl) (by kernel_rfl) (fun _ _ _ h => h) (Or.inr ⟨by kernel_rfl, rfl⟩) ?_
                  refine wpAny_take (i := 9) (v := undef) rfl (by kernel_rfl) (by kernel_rfl) (by kernel_rfl) (fun _ _ _ h => h) (Or.inr ⟨by kernel_rfl, rfl⟩) ?_
                  refine wpAny_take (i := 10) (v := ?_) rfl (by kernel_rfl) (by kernel_rfl) (by kernel_rfl) (fun _ _ _ h => h) (Or.inl ⟨by kernel_rfl, ?_⟩) ?_
                  rotate_left
                  · intro w; go_simp; try with_reducible rfl
                  refine wpAny_done (by kernel_rfl) ?_ _
                  simp only [Act.put, List.getElem_toArray, List.getElem_cons_zero, List.getElem_cons_succ, List.setIfInBounds_toArray, List.set_cons_zero, List.set_cons_succ]
                  go_wp2_with fail
                  go_roundw
                  case rel => exact ⟨j, by omega, by rw [hs0], rfl, hd.drew⟩
                  case measure => first | (simp [intOf]; done) | (simp [intOf]; omega)
        · have ei : ((j + 1 : Nat) : Int) - 1 = (j : Int) := by omega
          rw [ei]
          obtain ⟨b, off, rfl, hc⟩ := ht.2 (by omega)
          have c1 := hc j (by omega)
          have l0 : (j : Int) < (l.length : Int) := by omega
          have hst := sz_step l j (by omega)
          have hle := Z.out.1 j
          have hput := ends_put l D hE j (by omega)
          generalize nth l j = x at *
          generalize sz l (j + 1) = s1 at *
          have es : (s1 : Int) + (x.size : Int) = ((sz l j : Nat) : Int) := by omega
          have HS := Lib.hid (And.intro hput hle)
          clear hc hst hput hle
          generalize hs0 : sz l j = s0 at *
          have wx : IntKind.i64.wrap (s0 : Int) = (s0 : Int) := IntWalk.i64_in _ (by have := HS.out.2; omega)
          have hkey : keyOf Try.prog 3 (.int .i64 (s0 : Int)) = some (.int .i64 (s0 : Int)) := keyOf_int_mk Try.underlying3 (WalkArith.wf_i64 (by have := HS.out.2; omega))
          go_wp2_with (first
            | (at_mapUpdate; refine wpList_mapUpdate_own _ rfl _ _ _ 38 rfl 3 3 law3 Try.underlying38 _ w3.heap.size _ _ rfl hown (by unfold maxLen; omega) _ _ _ rfl rfl hkey _ [] (plainElem_int Try.underlying3 (WalkArith.wf_i64 (by omega))) ?_; intro w5 hown1 hgrow1))
          go_roundw
          case rel => exact ⟨j, _, by omega, by rw [hs0], rfl, hown1.mono (by omega), HS.out.1, hnx.grown hgrow1 hnx.size (fun q hq => by cases hq; exact Nat.le_refl _)⟩
          case measure => first | (simp [intOf]; done) | (simp [intOf]; omega)
    · rw [chk_no hf] at h1 h2
      go_enter Try.func6, Try.ntmps6
      go_wp2_with fail
      refine (alive_any _).mono ?_
      rintro e w1 ⟨rfl, hb⟩
      replace of := own_below of hb
      replace ow := own_below ow hb
      replace bW := bW.trans (hb.mono bW.size)
      clear hb
      have x0 := of.cell 0
      have x1 := of.cell 1
      simp at x0 x1
      obtain ⟨k0, k1, k2, k3⟩ := own_four ow
      go_wp2_with fail
      refine (h1 _).mono ?_
      rintro e w2 ⟨A, cap, l, rfl, hts, hl, hb, hcp⟩
      replace of := own_below of hb
      replace ow := own_below ow hb
      replace bW := bW.trans (hb.mono bW.size)
      clear hb x0 x1 k0 k1 k2 k3 h1
      have x1 := of.cell 1
      simp at x1
      obtain ⟨k0, k1, k2, k3⟩ := own_four ow
      go_wp2_with fail
      refine (h2 _).mono ?_
      rintro e w3 ⟨A1, cap1, l1, rfl, hts1, hl1', hb, hcp1⟩
      replace bW := bW.trans (hb.mono bW.size)
      replace hts := Ts.below hts hb
      clear hb h2
      clear hl hl1'
      go_wp2_with fail
      go_ret
      exact ⟨rfl, bW⟩

set_option maxRecDepth 100000 in
theorem lifted (os : Os) (started : os.Started) (H : Type) (enc : TypeId × Value → H) :
    ReturnsInHanded {} Try.checked os 6 .any (Rows.rollTailsSpec.pre6 enc Try.prog Try.f6 Rows.rollTailsRow.domain false) (Rows.rollTailsSpec.post enc Try.prog Try.f6 false true false false) := by
  refine returnsInHanded_of_change_sized (C := Try.checked) own started (by kernel_rfl) Try.func6
    (ChangeSpec.witness6 (enc := enc) (C := Try.checked) false ⟨#[], #[.agg #[.string ByteArray.empty, .string ByteArray.empty], .string ByteArray.empty, .agg #[.int .i64 0, .int .i64 0, .int .i64 0, .int .u32 0]], []⟩ 8 (by kernel_rfl) (by kernel_rfl) (by kernel_rfl) (by kernel_rfl)) ?_
  intro W base args ds gs before hval0 hW hcnd hsz0 _
  have hval : ∀ (j : Nat) t v, Try.f6.params[j]? = some t → args[j]? = some v → Value.okWide Try.prog W .any base t v := hval0
  have hsz : (DataW.weightsEach Try.prog (Try.f6.params.toList ++ Rows.rollTailsSpec.plain.varTypes Try.prog) (ds ++ gs)).all (· ≤ reachBytes) = true := hsz0
  have hW' := hW
  obtain ⟨p, q, hA0, hV, rfl, hfz, hnd⟩ := hW
  have hA : DataW.TrodAll enc Try.prog W 0 (fun _ => true) true Try.f6.params.toList args.toList ds p := hA0
  rw [Try.params6] at hA hval hsz
  obtain ⟨v0, vs0, d0, ds0, p0, q0, hargs, rfl, rfl, h0, r0⟩ := trodAll_cons hA
  obtain ⟨v1, vs1, d1, ds1, p1, q1, rfl, rfl, rfl, h1, r1⟩ := trodAll_cons r0
  obtain ⟨v2, vs2, d2, ds2, p2, q2, rfl, rfl, rfl, h2, r2⟩ := trodAll_cons r1
  obtain ⟨rfl, rfl, rfl⟩ := trodAll_nil r2
  obtain rfl : args = #[v0, v1, v2] := by cases args; simp_all
  obtain ⟨rfl, rfl⟩ := trodVars_none hV
  obtain ⟨x0, y0, rfl⟩ := okTwo (hval 0 37 v0 rfl rfl)
  have k0 := h0
  have lt0 : ∀ x ∈ p0, x.block < W.heap.size := by obtain ⟨m, hm⟩ := k0; exact DataW.trod_lt m _ _ _ hm
  obtain ⟨z0, u0⟩ := two_sized hsz (j := 0) rfl rfl h0
  obtain ⟨a1, rfl, rfl, rfl, w1⟩ := open_string Try.underlying9 (hval 1 9 v1 rfl rfl) h1
  obtain ⟨w2, lo2, hi2, m2, rfl, a2, b2, c2, z2⟩ := okCuts (hval 2 24 v2 rfl rfl)
  have k2 := h2
  have lt2 : ∀ x ∈ p2, x.block < W.heap.size := by obtain ⟨m, hm⟩ := k2; exact DataW.trod_lt m _ _ _ hm
  clear hA0 hval0 hsz0
  refine (walk x0 y0 a1 w2 lo2 hi2 m2 z0 u0 (str_sized hsz (j := 1) rfl rfl) z2 W).mono fun e W' ⟨he, bel⟩ => ?_
  subst he
  exact ⟨_, rfl, _, _, _, [], _, [], hW', trodAll_mk1 (shut_bool Try.underlying4 _), (trodAll_cons_mk (Below.trod laidOut (by kernel_rfl) (of_decide_eq_true (by kernel_rfl)) k0 bel lt0) (trodAll_cons_mk (shut_string Try.underlying9 w1) (trodAll_cons_mk (Below.trod laidOut (by kernel_rfl) (of_decide_eq_true (by kernel_rfl)) k2 bel lt2) trodAll_mk0))), rfl, bel.frame _, fun h => by cases h⟩

theorem over : Rows.rollTailsRow.holds Try.pinned (OpenSpec.ofChange Rows.rollTailsSpec) :=
  OpenClaim.holds_of_wide 6 Try.f6 rfl rfl rfl rfl rfl rfl rfl ⟨rfl, rfl, rfl, rfl, rfl⟩ rfl rfl rfl rfl rfl (by kernel_rfl) Try.func6 (by kernel_rfl)
    (of_decide_eq_true (by kernel_rfl)) (by unfold Func.isWrapper; first | (rw [if_pos (by decide +kernel)]; kernel_rfl) | (rw [if_neg (by decide +kernel)]; exact ⟨rfl, rfl⟩))
    (fun os started H enc _ => lifted os started H enc)

/-- the statement -/
theorem proved : Rows.RollTailsSaid := over
end Go.Proofs.Ytingpadjciohjaa.rollTails
