/-
  For all frames, every two spaces, address and bytes the law MmuApart of package mmu returns true: whatever is laid by one space, another one that has no frame of it sees what it saw; no condition.
-/
import Derived.Test.YtkbelpkmlmfedaaRows
import Derived.WalkKit
import Derived.ProofKit
import Derived.OpenShut
import Derived.ShutString
import Derived.Test.YtkbelpkmlmfedaaLw
import Derived.Test.YtkbelpkmlmfedaaMg
import Derived.Test.YtkbelpkmlmfedaaMk
import Derived.Test.YtkbelpkmlmfedaaMz
namespace Go.Proofs.Ytkbelpkmlmfedaa.mmuApart
open Go.ChangeShapes Go.WideShapes Go.ChangeAt Go.RowKit
open Go.ChangeMaps (open_string shut_string)
open _root_.Go.Proofs.Ytkbelpkmlmfedaa.Xe
open _root_.Go.Proofs.Ytkbelpkmlmfedaa.Nm
open _root_.Go.Proofs.Ytkbelpkmlmfedaa.Mo
set_option linter.unusedVariables false
set_option linter.unusedSimpArgs false

theorem own : ownKnob Try.prog.godebug = none := by kernel_rfl
theorem lay_some {F G : Mm.Fr} {s : Mm.Sp} {q : Nat} {d : List UInt8} (h : Mm.layM F s q d = some G) : q ≤ 2048 ∧ q + d.length ≤ 2048 ∧ Mm.layB s F q d = some G := by
  unfold Mm.layM at h
  split at h
  · rename_i c; exact ⟨c.1, c.2, h⟩
  · cases h
def tc (a b : Mm.Sp) : Array Value := (sl a ++ sl b).toArray
theorem cells79 : Try.prog.cellsOf 79 = 96 := by kernel_rfl
theorem rg0 {w : World} {g : Nat} {a b : Mm.Sp} (ha : SpOk a) (h : Own w g 79 (tc a b)) : w.rangeAt g 0 (sl a) := by
  intro j v hj
  rw [Nat.zero_add, h.cell]
  unfold tc
  rw [List.getElem?_toArray, List.getElem?_append_left (List.getElem?_eq_some_iff.1 hj).1]
  exact hj
theorem rg1 {w : World} {g : Nat} {a b : Mm.Sp} (ha : SpOk a) (h : Own w g 79 (tc a b)) : w.rangeAt g 48 (sl b) := by
  intro j v hj
  rw [h.cell]
  unfold tc
  have l48 : (sl a).length = 48 := by rw [sl_length, ha.n]
  rw [List.getElem?_toArray, List.getElem?_append_right (by omega), l48, Nat.add_sub_cancel_left]
  exact hj
theorem lm {ops : Array Oper} {rest : List Oper} {o : Oper} {a : Act} {w : World} {Q : Exit → Act → World → Prop} {x : Operand} {g f : Nat} {s : Mm.Sp}
    (hgd : o.guard = none) (ho : o.op = .load 57 x) (hx : a.eval x = .pointer (some ⟨g, f, none⟩)) (hs : SpOk s) (hg : w.rangeAt g f (sl s))
    (h : wpList Try.prog ops Q rest (a.put o.dst (.agg (sc s))) w) : wpList Try.prog ops Q (o :: rest) a w :=
  wpList_load_mid hgd 57 x ho g f hx (sl s) _ hg Try.underlying57 rfl (by rw [info57, sl_length, hs.n]) h
set_option maxRecDepth 100000 in
theorem okTwo {H : Type} {enc : TypeId × Value → H} {W : World} {base : Nat} {v : Value} {d : DataW H} {p : List MemPlace} (hv : Value.okWide Try.prog W .any base 79 v) (h : DataW.Trod enc Try.prog W 0 (fun _ => true) true 79 v d p) :
    ∃ x : Mm.Sp × Mm.Sp, v = .agg (tc x.1 x.2) ∧ (SpOk x.1 ∧ SpOk x.2) := by
  obtain ⟨cs, rfl⟩ : ∃ cs : Array Value, v = .agg cs := by
    unfold Value.okWide at hv
    rw [Try.underlying79] at hv
    cases v <;> simp at hv
    exact ⟨_, rfl⟩
  obtain ⟨fuel, hf⟩ := h
  obtain ⟨xs, m, _, _, hl, hlen, hx⟩ := DataW.trod_array Try.underlying79 hf
  rw [cells79] at hl
  have t0 := hx 0 (by omega)
  have t1 := hx 1 (by omega)
  rw [cells57, List.getElem?_eq_getElem (show 0 < xs.length by omega)] at t0
  rw [cells57, List.getElem?_eq_getElem (show 1 < xs.length by omega)] at t1
  obtain ⟨a, h1, oa⟩ := space_of t0
  obtain ⟨b, h2, ob⟩ := space_of t1
  refine ⟨(a, b), ?_, oa, ob⟩
  have hl' : cs.toList.length = 96 := hl
  have e : cs.toList = sl a ++ sl b := by
    rw [← h1, ← h2, Nat.zero_mul, List.drop_zero, Nat.one_mul]
    show cs.toList = cs.toList.take 48 ++ (cs.toList.drop 48).take 48
    rw [List.take_of_length_le (l := cs.toList.drop 48) (by rw [List.length_drop, hl']; decide), List.take_append_drop]
  unfold tc
  rw [← e]
theorem owns_seen {s : Mm.Sp} (hs : SpOk s) (x : Int) : Mm.owns s x ↔ Seen s 16 x := by
  constructor
  · rintro ⟨i, h1, h2⟩
    by_cases e : i < 16
    · exact ⟨i, e, h1, h2⟩
    · exfalso
      unfold Mm.pt at h1
      rw [List.getD_eq_getElem?_getD, List.getElem?_eq_none (by rw [hs.n]; omega)] at h1
      cases h1
  · rintro ⟨i, _, h1, h2⟩
    exact ⟨i, h1, h2⟩
theorem copy_apart {F G : Mm.Fr} {a b : Mm.Sp} {q : Nat} {d : List UInt8} (ha : SpOk a) (hb : SpOk b) (h : Mm.layM F a q d = some G) (hd : ∀ i, i < 16 → (Mm.pt b i).is = true → ¬ Seen a 16 (Mm.pt b i).f) (r : Nat) (n : Int) : Mm.copyM G b r n = Mm.copyM F b r n := by
  obtain ⟨_, _, h⟩ := lay_some h
  have hf : ∀ f : Nat, Mm.owns b f → Mm.fr G f = Mm.fr F f := by
    intro f hf
    refine Mm.lay_frames _ _ _ _ h f (fun k => ?_)
    obtain ⟨i, i1, i2, i3⟩ := (owns_seen hb _).1 hf
    exact hd i i1 i2 (by rw [i3]; exact (owns_seen ha _).1 k)
  have hy := Mm.byte_frames (Mm.lay_shape a _ _ _ _ h) hf
  unfold Mm.copyM
  rw [Mm.copy_frames hy]
/-- the law's boxes: the space, what is asked; the frames -/
structure Gx (w : World) (A : Option Addr) (len cap : Nat) (l : List ByteArray) (s : Mm.Sp × Mm.Sp) (x : Span) (wr : World) : Prop where
  sp : Own wr w.heap.size 79 (tc s.1 s.2)
  by_ : Own wr (w.heap.size + 1) 70 x.cs
  t : Ts wr A len l
  b : Below w.heap.size w wr
theorem Gx.below {w : World} {A : Option Addr} {len cap : Nat} {l : List ByteArray} {s : Mm.Sp × Mm.Sp} {x : Span} {wr w1 : World} (o : Gx w A len cap l s x wr) (hx : Below wr.heap.size wr w1) : Gx w A len cap l s x w1 :=
  ⟨(hx.block _ o.sp.lt).trans o.sp, (hx.block _ o.by_.lt).trans o.by_, o.t.below hx, o.b.trans (hx.mono o.b.size)⟩
theorem Gx.high {w : World} {A : Option Addr} {len cap : Nat} {l : List ByteArray} {s : Mm.Sp × Mm.Sp} {x : Span} {wr w1 : World} (o : Gx w A len cap l s x wr) (hx : Below (w.heap.size + 2) wr w1) (ht : Ts w A len l) : Gx w A len cap l s x w1 :=
  ⟨(hx.block _ (by omega)).trans o.sp, (hx.block _ (by omega)).trans o.by_, ht.below (o.b.trans (hx.mono (by omega))), o.b.trans (hx.mono (by omega))⟩
theorem Gx.cells {w : World} {A : Option Addr} {len cap : Nat} {l : List ByteArray} {s : Mm.Sp × Mm.Sp} {x : Span} {wr : World} (o : Gx w A len cap l s x wr) :
    wr.cell? ⟨w.heap.size + 1, 0, none⟩ = some (.int .u32 (x.q : Nat)) ∧ wr.cell? ⟨w.heap.size + 1, 1, none⟩ = some (.int .i64 x.n) ∧ wr.cell? ⟨w.heap.size + 1, 2, none⟩ = some (.string x.d) :=
  ⟨o.by_.cell 0, o.by_.cell 1, o.by_.cell 2⟩
theorem Gx.new {w : World} {A : Option Addr} {len cap : Nat} {l : List ByteArray} {s : Mm.Sp × Mm.Sp} {x : Span} (ht : Ts w A len l) : Gx w A len cap l s x ((w.alloc (Obj.cells (tc s.1 s.2) 79)).alloc (Obj.cells x.cs 70)) := by
  have h2 := Own.new (w.alloc (Obj.cells (tc s.1 s.2) 79)) 70 x.cs
  rw [show (w.alloc (Obj.cells (tc s.1 s.2) 79)).heap.size = w.heap.size + 1 from by simp] at h2
  have hb : Below w.heap.size w ((w.alloc (Obj.cells (tc s.1 s.2) 79)).alloc (Obj.cells x.cs 70)) := ((Below.refl _ w).alloc (Nat.le_refl _) _).alloc (by simp) _
  exact ⟨(Own.new w 79 (tc s.1 s.2)).alloc _, h2, ht.below hb, hb⟩
set_option maxRecDepth 100000 in
set_option maxHeartbeats 4000000 in
theorem walk (A : Option Addr) (len cap : Nat) (l : List ByteArray) (ss : Mm.Sp × Mm.Sp) (x : Span) (hs : SpOk ss.1 ∧ SpOk ss.2) (hx : x.Ok) (w : World) (ht : Ts w A len l) (hm : len ≤ 9223372036854775807) (hsz : ∀ k, (nth l k).size ≤ 4611686018427387904) (hn : A = none → len = 0 ∧ cap = 0) :
    Calls Try.prog 13 #[.slice A len cap, .agg (tc ss.1 ss.2), .agg x.cs] w fun e w' => e = .returned (.bool true) ∧ Below w.heap.size w w' := by
  have st := Gx.new (cap := cap) (s := ss) (x := x) ht
  obtain ⟨V, hV⟩ : ∃ V, V = (w.alloc (Obj.cells (tc ss.1 ss.2) 79)).alloc (Obj.cells x.cs 70) := ⟨_, rfl⟩
  rw [← hV] at st
  have HV := Lib.hid hV
  have HT0 := Lib.hid ht
  clear hV ht
  have hgr := fun wr (o : Gx w A len cap l ss x wr) => great_any A len cap l wr o.t hm hsz
  clear hsz
  go_enter Try.func13, Try.ntmps13
  go_wp2_with fail
  change Calls _ _ _ ((w.alloc (Obj.cells (tc ss.1 ss.2) 79)).alloc (Obj.cells x.cs 70)) _
  rw [← HV.out]
  refine (alive_any _).mono ?_
  rintro e w1 ⟨rfl, hx1⟩
  replace st := st.below hx1
  clear HV hx1
  go_wp2_with fail
  refine (hgr _ st).mono ?_
  rintro e w2 ⟨hg, rfl⟩
  clear hgr
  unfold GreatIs at hg
  rcases hg with rfl | ⟨rfl, hbk⟩
  · go_wp2_with fail
    go_ret
    exact ⟨rfl, st.b⟩
  · have hlen : len ≤ 5000 := by
      have := len_le_bulk l
      have := st.t.1
      omega
    have hT : ∀ wr, Gx w A len cap l ss x wr → Tz wr A len cap l := fun wr o => ⟨o.t, hn, by omega⟩
    obtain ⟨q, n, d⟩ := x
    obtain ⟨hq, hn0, hn1, hd⟩ := hx
    dsimp only at *
    by_cases hd3 : 3000 < d.size
    · have hd3' : (3000 : Int) < (d.size : Int) := by omega
      obtain ⟨c0, c1, c2⟩ := st.cells
      dsimp only at c0 c1 c2
      go_wp2_with fail
      go_ret
      exact ⟨rfl, st.b⟩
    have hd3' : ¬ (3000 : Int) < (d.size : Int) := by omega
    obtain ⟨s1, s2⟩ := ss
    obtain ⟨o1, o2⟩ := hs
    dsimp only at *
    have hlay := fun wr o => lay_any A len cap l s1 o1 q d wr (hT wr o) hq hd
    unfold MemIs at hlay
    have hcp := fun (r : Nat) (hr : r < 4294967296) wr o => copy_any A len cap l s2 o2 r 128 wr (hT wr o) hr (by decide) (by decide)
    unfold CopyIs at hcp
    have hmm := @run_makeMap Try.prog
    obtain ⟨c0, c1, c2⟩ := st.cells
    dsimp only at c0 c1 c2
    have stM := st.below (grow w1 (.map #[] 0))
    have hM := World.ownsMap_made w1 Try.prog 3 (plainElem (H := Unit) Try.prog 4)
    have hM0 : w.heap.size + 2 ≤ w1.heap.size := st.by_.lt
    have r0 := rg0 (a := s1) (b := s2) o1 stM.sp
    go_wp2_with (refine lm rfl rfl rfl o1 r0 ?_)
    clear hmm c0 c1 c2 r0
    generalize hmb : w1.heap.size = mb at *
    generalize hVV : w1.alloc (.map #[] 0) = V1 at *
    clear st hmb hVV
    go_loopw [9, 33] (fun _ i wr => ∃ (k : Nat) (D : DataW Unit), k ≤ 16 ∧ i = .int .i64 k ∧ wr.ownsMap Try.prog 3 (plainElem Try.prog 4) mb k D ∧ Tells (Seen s1 k) D ∧ Below (w.heap.size + 2) V1 wr ∧ mb < wr.heap.size) (fun _ i _ => 16 - (intOf i).toNat)
    case atStart => exact ⟨0, _, Nat.zero_le _, rfl, hM, tells_nil (fun x h => by obtain ⟨i, h, _⟩ := h; omega), Below.refl _ _, hM.lt⟩
    case round =>
      clear hM
      obtain ⟨k, D, hk, rfl, hM, hT', hb, hmw⟩ := hrel
      by_cases hlt : k < 16
      · have hix := idx57 s1 o1 k hlt
        have hM2 := hM.alloc (Obj.cells #[.bool (Mm.pt s1 k).is, .bool (Mm.pt s1 k).wr, .int .i64 (Mm.pt s1 k).f] 55)
        have hb2 := hb.trans ((grow wr (Obj.cells #[.bool (Mm.pt s1 k).is, .bool (Mm.pt s1 k).wr, .int .i64 (Mm.pt s1 k).f] 55)).mono (by omega))
        have hmw2 : mb < (wr.alloc (Obj.cells #[.bool (Mm.pt s1 k).is, .bool (Mm.pt s1 k).wr, .int .i64 (Mm.pt s1 k).f] 55)).heap.size := Nat.lt_of_lt_of_le hmw (grow wr _).size
        have hS0 := seen_skip (s := s1) (k := k)
        have hS1 := seen_more (s := s1) (k := k)
        have hkey := key64 (o1.lo k) (o1.hi k)
        generalize Mm.pt s1 k = p at *
        obtain ⟨is, wt, f⟩ := p
        dsimp only at *
        have HT := Lib.hid hT'
        clear hT' hM hb hmw hlay hcp
        cases is
        · have HS := Lib.hid (hS0 rfl)
          clear hS0 hS1 hkey
          go_wp2_with fail
          go_roundw
          case rel => exact ⟨k + 1, D, by omega, by go_num, hM2.mono (by omega), tells_iff HT.out HS.out, hb2, hmw2⟩
          case measure => simp [intOf]; omega
        · have HS := Lib.hid (hS1 rfl)
          clear hS0 hS1
          go_wp2_with (first
            | (at_mapUpdate; refine wpList_mapUpdate_own _ rfl _ _ _ 80 rfl 3 4 keyed3 Try.underlying80 _ mb _ _ rfl hM2 (by unfold maxLen; omega) _ _ _ rfl rfl hkey _ [] (plainElem_bool Try.underlying4 true) ?_; intro w5 hown1 hgrow1))
          go_roundw
          case rel => exact ⟨k + 1, _, by omega, by go_num, hown1, tells_put HT.out f HS.out, hb2.grown hgrow1 (by omega) (fun q hq => by cases hq; omega), hown1.lt⟩
          case measure => simp [intOf]; omega
      · obtain rfl : k = 16 := by omega
        have st := stM.high hb HT0.out
        have r1 := rg1 (a := s1) (b := s2) o1 st.sp
        clear hb stM
        go_wp2_with (refine lm rfl rfl rfl o2 r1 ?_)
        clear r1
        obtain ⟨wo, rfl⟩ : ∃ wo, wo = wr := ⟨_, rfl⟩
        go_loopw [11, 44] (fun _ i wq => ∃ k : Nat, k ≤ 16 ∧ i = .int .i64 k ∧ (∀ i, i < k → (Mm.pt s2 i).is = true → ¬ Seen s1 16 (Mm.pt s2 i).f) ∧ Below wo.heap.size wo wq) (fun _ i _ => 16 - (intOf i).toNat)
        case atStart => exact ⟨0, Nat.zero_le _, rfl, (fun i h => by omega), Below.refl _ _⟩
        case round =>
          obtain ⟨k, hk, rfl, hN, hb⟩ := hrel
          by_cases hlt : k < 16
          · have hix := idx57 s2 o2 k hlt
            have hM2 := (hM.kept (row := none) ⟨hb.os, hb.tape, hb.output, hb.size, fun q hq _ => hb.block q hq⟩ (by simp)).alloc (Obj.cells #[.bool (Mm.pt s2 k).is, .bool (Mm.pt s2 k).wr, .int .i64 (Mm.pt s2 k).f] 55)
            obtain ⟨x, hlk, hx⟩ := look80 hM2 hT' (o2.lo k) (o2.hi k)
            have hb2 := hb.trans ((grow wr (Obj.cells #[.bool (Mm.pt s2 k).is, .bool (Mm.pt s2 k).wr, .int .i64 (Mm.pt s2 k).f] 55)).mono hb.size)
            have hN1 : ((Mm.pt s2 k).is = true → x = false) → ∀ i, i < k + 1 → (Mm.pt s2 i).is = true → ¬ Seen s1 16 (Mm.pt s2 i).f := by
              intro h i hi h2 h3
              by_cases e : i = k
              · subst e
                have := hx.2 h3
                rw [h h2] at this
                cases this
              · exact hN i (by omega) h2 h3
            have st2 := st.below hb2
            have HN1 := Lib.hid hN1
            clear hN hN1 hx hb hM2 hlay hcp
            generalize Mm.pt s2 k = p at *
            obtain ⟨is, wt, f⟩ := p
            dsimp only at *
            cases is
            · go_wp2_with fail
              go_roundw
              case rel => exact ⟨k + 1, by omega, by go_num, HN1.out (fun h => by cases h), hb2⟩
              case measure => simp [intOf]; omega
            · cases x
              · go_wp2_with fail
                go_roundw
                case rel => exact ⟨k + 1, by omega, by go_num, HN1.out (fun _ => rfl), hb2⟩
                case measure => simp [intOf]; omega
              · go_wp2_with fail
                go_ret
                exact ⟨rfl, st2.b⟩
          · obtain rfl : k = 16 := by omega
            have hdis := hN
            have st2 := st.below hb
            clear hN hM hT' hb hmw st
            obtain ⟨c0, c1, c2⟩ := st2.cells
            dsimp only at c0 c1 c2
            have r0 := rg0 (a := s1) (b := s2) o1 st2.sp
            have HD := Lib.hid hdis
            clear hdis
            go_wp2_with (refine lm rfl rfl rfl o1 r0 ?_)
            clear c0 c1 c2 r0
            refine (hlay _ st2).mono ?_
            rintro e w5 ⟨⟨A1, n1, c1, L1, rfl, hr1, hm1, hf1⟩, hx5⟩
            have st5 := st2.below hx5
            have t5 := Tz.of hr1 hm1
            clear hx5 hlay hr1 st2
            cases hrr : Mm.layM (fs l) s1 q (toL d) with
            | none =>
              simp only [Option.isSome_none]
              clear hf1 t5
              go_wp2_with fail
              go_ret
              exact ⟨rfl, st5.b⟩
            | some G =>
              rw [hrr] at hf1
              simp only [Option.getD_some, Option.isSome_some] at hf1 ⊢
              subst hf1
              have hsame := fun r n => copy_apart o1 o2 hrr HD.out r n
              have hcp1 := fun (r : Nat) (hr : r < 4294967296) wr hh => copy_any A1 n1 c1 L1 s2 o2 r 128 wr hh hr (by decide) (by decide)
              unfold CopyIs at hcp1
              clear hrr HD
              go_wp2_with fail
              go_loopw [14, 15, 16, 17, 18, 69] (fun _ _ _ _ _ i wq => ∃ k : Nat, k ≤ 16 ∧ i = .int .i64 k ∧ Below w5.heap.size w5 wq) (fun _ _ _ _ _ i _ => 16 - (intOf i).toNat)
              case atStart => exact ⟨0, Nat.zero_le _, rfl, Below.refl _ _⟩
              case round =>
                obtain ⟨k, hk, rfl, hb⟩ := hrel
                by_cases hlt : k < 16
                · have st6 := st5.below hb
                  have t6 := t5.below hb
                  have r1 := rg1 (a := s1) (b := s2) o1 st6.sp
                  have uk := u32_id k (by omega)
                  have um : IntKind.u32.wrap ((k : Int) * 128) = (k : Int) * 128 := by
                    have := u32_id (k * 128) (by omega)
                    simpa using this
                  have ha1 := fun wr o => hcp (k * 128) (by omega) wr o
                  have ha2 := fun wr hh => hcp1 (k * 128) (by omega) wr hh
                  rw [hsame] at ha2
                  simp only [Int.natCast_mul] at ha1 ha2
                  generalize (Mm.copyM (fs l) s2 (k * 128) 128).isSome = b1 at *
                  generalize ofB ((Mm.copyM (fs l) s2 (k * 128) 128).getD []) = v1 at *
                  have tv := str_yes (rfl : v1 = v1)
                  clear hsame hcp hcp1 st5 t5
                  go_wp2_with (refine lm rfl rfl rfl o2 r1 ?_)
                  refine (ha1 _ st6).mono ?_
                  rintro e w7 ⟨rfl, hx7⟩
                  have hb7 := hb.trans (hx7.mono hb.size)
                  have st7 := st6.below hx7
                  have t7 := t6.below hx7
                  have r7 := rg1 (a := s1) (b := s2) o1 st7.sp
                  clear ha1 st6 t6 hb r1 hx7
                  go_wp2_with (refine lm rfl rfl rfl o2 r7 ?_)
                  refine (ha2 _ t7).mono ?_
                  rintro e w8 ⟨rfl, hx8⟩
                  have hb8 := hb7.trans (hx8.mono hb7.size)
                  clear ha2 st7 t7 hb7 r7 hx8
                  go_wp2_with fail
                  go_roundw
                  case rel => first | exact ⟨k + 1, by omega, by go_num, hb8⟩ | ((repeat apply Exists.intro); exact ⟨⟨k + 1, by omega, by go_num, hb8⟩, rfl⟩)
                  case measure => first | (simp [intOf]; done) | (simp [intOf]; omega)
                · obtain rfl : k = 16 := by omega
                  go_wp2_with fail
                  go_ret
                  exact ⟨rfl, (st5.below hb).b⟩

set_option maxRecDepth 100000 in
theorem lifted (os : Os) (started : os.Started) (H : Type) (enc : TypeId × Value → H) :
    ReturnsInHanded {} Try.checked os 13 .any (Rows.mmuApartSpec.pre6 enc Try.prog Try.f13 Rows.mmuApartRow.domain false) (Rows.mmuApartSpec.post enc Try.prog Try.f13 false true false false) := by
  refine returnsInHanded_of_change_sized (C := Try.checked) own started (by kernel_rfl) Try.func13
    (ChangeSpec.witness6 (enc := enc) (C := Try.checked) false ⟨#[], #[.slice none 0 0, .agg (tc s0 s0), .agg #[.int .u32 0, .int .i64 0, .string ByteArray.empty]], []⟩ 8 (by kernel_rfl) (by kernel_rfl) (by kernel_rfl) (by kernel_rfl)) ?_
  intro W base args ds gs before hval0 hW hcnd hsz0 _
  have hval : ∀ (j : Nat) t v, Try.f13.params[j]? = some t → args[j]? = some v → Value.okWide Try.prog W .any base t v := hval0
  have hsz : (DataW.weightsEach Try.prog (Try.f13.params.toList ++ Rows.mmuApartSpec.plain.varTypes Try.prog) (ds ++ gs)).all (· ≤ reachBytes) = true := hsz0
  have hW' := hW
  obtain ⟨p, q, hA0, hV, rfl, hfz, hnd⟩ := hW
  have hA : DataW.TrodAll enc Try.prog W 0 (fun _ => true) true Try.f13.params.toList args.toList ds p := hA0
  rw [Try.params13] at hA hval hsz
  obtain ⟨v0, vs0, d0, ds0, p0, q0, hargs, rfl, rfl, h0, r0⟩ := trodAll_cons hA
  obtain ⟨v1, vs1, d1, ds1, p1, q1, rfl, rfl, rfl, h1, r1⟩ := trodAll_cons r0
  obtain ⟨v2, vs2, d2, ds2, p2, q2, rfl, rfl, rfl, h2, r2⟩ := trodAll_cons r1
  obtain ⟨rfl, rfl, rfl⟩ := trodAll_nil r2
  obtain rfl : args = #[v0, v1, v2] := by cases args; simp_all
  obtain ⟨rfl, rfl⟩ := trodVars_none hV
  obtain ⟨a0, len0, cap0, rfl⟩ := okWide_slice Try.underlying53 (hval 0 53 v0 rfl rfl)
  have k0 := h0
  have lt0 : ∀ x ∈ p0, x.block < W.heap.size := by obtain ⟨m, hm⟩ := k0; exact DataW.trod_lt m _ _ _ hm
  obtain ⟨l0, t0, m0, s0⟩ := texts_arg hsz (j := 0) rfl rfl h0
  have n0 := nil_arg h0
  obtain ⟨x1, rfl, ok1⟩ := okTwo (hval 1 79 v1 rfl rfl) h1
  have k1 := h1
  have lt1 : ∀ x ∈ p1, x.block < W.heap.size := by obtain ⟨m, hm⟩ := k1; exact DataW.trod_lt m _ _ _ hm
  obtain ⟨x2, rfl, ok2⟩ := okSpan (hval 2 70 v2 rfl rfl) h2
  have k2 := h2
  have lt2 : ∀ x ∈ p2, x.block < W.heap.size := by obtain ⟨m, hm⟩ := k2; exact DataW.trod_lt m _ _ _ hm
  clear hA0 hval0 hsz0
  refine (walk a0 len0 cap0 l0 x1 x2 ok1 ok2 W t0 m0 s0 n0).mono fun e W' ⟨he, bel⟩ => ?_
  subst he
  exact ⟨_, rfl, _, _, _, [], _, [], hW', trodAll_mk1 (shut_bool Try.underlying4 _), (trodAll_cons_mk (Below.trod laidOut (by kernel_rfl) (of_decide_eq_true (by kernel_rfl)) k0 bel lt0) (trodAll_cons_mk (Below.trod laidOut (by kernel_rfl) (of_decide_eq_true (by kernel_rfl)) k1 bel lt1) (trodAll_cons_mk (Below.trod laidOut (by kernel_rfl) (of_decide_eq_true (by kernel_rfl)) k2 bel lt2) trodAll_mk0))), rfl, bel.frame _, fun h => by cases h⟩

theorem over : Rows.mmuApartRow.holds Try.pinned (OpenSpec.ofChange Rows.mmuApartSpec) :=
  OpenClaim.holds_of_wide 13 Try.f13 rfl rfl rfl rfl rfl rfl rfl ⟨rfl, rfl, rfl, rfl, rfl⟩ rfl rfl rfl rfl rfl (by kernel_rfl) Try.func13 (by kernel_rfl)
    (of_decide_eq_true (by kernel_rfl)) (by unfold Func.isWrapper; first | (rw [if_pos (by decide +kernel)]; kernel_rfl) | (rw [if_neg (by decide +kernel)]; exact ⟨rfl, rfl⟩))
    (fun os started H enc _ => lifted os started H enc)

/-- the statement -/
theorem proved : Rows.MmuApartSaid := over
end Go.Proofs.Ytkbelpkmlmfedaa.mmuApart
