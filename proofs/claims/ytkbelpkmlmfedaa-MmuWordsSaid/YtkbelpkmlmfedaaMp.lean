/-
  THE WALKS of the document's Store, and of the code's Copy, page by page.
-/
import Derived.Test.YtkbelpkmlmfedaaMt
import Derived.Shelf.Strings.BuilderK
namespace Go.Proofs.Ytkbelpkmlmfedaa
set_option linter.unusedVariables false
set_option maxRecDepth 100000
set_option linter.unusedSimpArgs false
open Go.RowKit
namespace Mo
open _root_.Go.Proofs.Ytkbelpkmlmfedaa.Nm _root_.Go.Proofs.Ytkbelpkmlmfedaa.Xe
theorem put_snoc : ∀ (k v : Nat), Nu.putB v (k + 1) = Nu.putB v k ++ [UInt8.ofNat (v / 256 ^ k % 256)]
  | 0, v => by simp [Nu.putB]
  | k + 1, v => by
    rw [Nu.putB, put_snoc k (v / 256), Nu.putB, Nat.div_div_eq_div_mul, Nat.pow_succ, Nat.mul_comm]
    rfl
set_option maxHeartbeats 4000000 in
theorem rstore_any (A : Option Addr) (len cap : Nat) (l : List ByteArray) (s : Mm.Sp) (hs : SpOk s) (q : Nat) (n : Int) (v : Nat) (w : World) (hl : Tz w A len cap l) (hq : q < 4294967296) (h0 : -9223372036854775808 ≤ n) (h1 : n ≤ 9223372036854775807) (hv : v < 4294967296) :
    Calls Try.prog 36 #[.slice A len cap, .agg (sc s), .int .u32 (q : Nat), .int .i64 n, .int .u32 (v : Nat)] w fun e w' => MemIs w.heap.size (Mm.storeM (fs l) s q n v) e w' ∧ Below w.heap.size w w' := by
  have hb := grow w (Obj.cells (sc s) 57)
  have ho := Own.new w 57 (sc s)
  have hl1 := hl.below hb
  have hf := fun wr => rfind_any s hs q n true wr hq h0 h1
  unfold FindIs at hf
  cases hr : Mm.find s q n true with
  | none =>
    rw [show Mm.storeM (fs l) s q n v = none from by rw [store_find, hr]]
    rw [hr] at hf
    simp only [Option.map_none, Option.getD_none, Option.isSome_none] at hf
    go_enter Try.func36, Try.ntmps36
    go_wp2_with (refine ls rfl rfl rfl hs ho ?_)
    refine (hf _).mono ?_
    rintro e w1 ⟨rfl, hx1⟩
    have hb1 := hb.trans (hx1.mono hb.size)
    clear hf ho hb hl1
    go_wp2_with fail
    go_ret2
    exact ⟨MemIs.no, hb1⟩
  | some r =>
    obtain ⟨f, p⟩ := r
    obtain ⟨hok, -, -, hp⟩ := find_some hr
    have hq2 := hok.2.1
    obtain ⟨p1, p2, p3, p4⟩ := Mm.ok_page hok
    rw [Mm.store_lay _ _ _ _ _ hok]
    rw [hr] at hf
    simp only [Option.map_some, Option.getD_some, Option.isSome_some] at hf
    generalize hN : n.toNat = N at *
    subst p4
    have hM : Mm.layM (fs l) s q (Nu.putB v N) = Mm.layB s (fs l) q (Nu.putB v N) := if_pos ⟨by omega, by rw [Nu.putB_length]; omega⟩
    rw [← hM]
    clear hM hok hr hN
    have hlay := fun wr (hh : Tz wr A len cap l) => rlay_any A len cap l s hs q (ofB (Nu.putB v N)) wr hh hq (by rw [of_size, Nu.putB_length]; omega)
    rw [toL_of] at hlay
    clear hl
    go_enter Try.func36, Try.ntmps36
    go_wp2_with (refine ls rfl rfl rfl hs ho ?_)
    refine (hf _).mono ?_
    rintro e w1 ⟨rfl, hx1⟩
    have hb1 := hb.trans (hx1.mono hb.size)
    have hl2 := hl1.below hx1
    have ho1 : Own w1 w.heap.size 57 (sc s) := (hx1.block _ ho.lt).trans ho
    clear hf ho hb hl1 hx1 hp
    go_wp2_with fail
    go_loopw [4, 15, 16] (fun x o i wr => ∃ k : Nat, k ≤ N ∧ i = .int .i64 k ∧ o = .string (ofB (Nu.putB v k)) ∧ x = .int .u32 ((v / 256 ^ k : Nat) : Int) ∧ Below w1.heap.size w1 wr) (fun _ _ i _ => N - (intOf i).toNat)
    case atStart => exact ⟨0, Nat.zero_le _, rfl, rfl, by simp, Below.refl _ _⟩
    case round =>
      obtain ⟨k, hk, rfl, rfl, rfl, hx⟩ := hrel
      by_cases hlt : k < N
      · have HP := Lib.hid (put_snoc k v)
        have hvk : v / 256 ^ k < 4294967296 := Nat.lt_of_le_of_lt (Nat.div_le_self _ _) hv
        have HD := Lib.hid (show v / 256 ^ (k + 1) = v / 256 ^ k / 256 from by rw [Nat.pow_succ, Nat.div_div_eq_div_mul])
        have hz : (ofB (Nu.putB v k)).size = k := by rw [of_size, Nu.putB_length]
        generalize v / 256 ^ k = y at *
        have hcv := conv_new wr ((y % 256 : Nat) : Int)
        rw [Int.toNat_natCast] at hcv
        have HA := Lib.hid (of_app (Nu.putB v k) (UInt8.ofNat (y % 256)))
        have HX := Lib.hid (hx.trans ((grow wr (Obj.cells #[.int .u8 ((y % 256 : Nat) : Int)] 5)).mono hx.size))
        have y1 : ¬ 9223372036854775807 < (ofB (Nu.putB v k)).size + 1 := by omega
        have ym : ((y % 256 : Nat) : Int) = (y : Int) % 256 := by omega
        rw [ym] at hcv HX
        clear hx hlay hl2 ho1 hz
        go_wp2_with fail
        go_roundw
        case rel => exact ⟨k + 1, by omega, by go_num, by rw [HP.out, ← HA.out], by rw [HD.out]; simp, HX.out⟩
        case measure => simp [intOf]; omega
      · obtain rfl : k = N := by omega
        have hl3 := hl2.below hx
        have ho3 : Own wr w.heap.size 57 (sc s) := (hx.block _ ho1.lt).trans ho1
        have hbw := hb1.trans (hx.mono hb1.size)
        have hc := hlay wr hl3
        clear hlay hl2 ho1 hl3 hx
        go_wp2_with (refine ls rfl rfl rfl hs ho3 ?_)
        refine hc.mono ?_
        rintro e w4 ⟨⟨A4, n4, c4, L4, rfl, hr4, hn4, hf4⟩, hx4⟩
        clear hc ho3
        go_wp2_with fail
        go_ret2
        exact ⟨⟨A4, n4, c4, L4, rfl, RS.base hr4 hbw.size, hn4, hf4⟩, hbw.trans (hx4.mono hbw.size)⟩
/-- a builder that holds these bytes; what is no bytes and isn't it stays -/
def Bk (w : World) (B b : Nat) (l : List UInt8) : Prop := (l = [] ∧ Lib.IsBuilder 107 5 B b (Lib.byteCells []) w) ∨ (l ≠ [] ∧ Lib.IsBuilderF 107 5 B b (Lib.byteCells l) w)
theorem Bk.new (w : World) : Bk (w.alloc (Obj.cells #[.pointer none, .slice none 0 0] 107)) w.heap.size w.heap.size [] := .inl ⟨rfl, Bf.new w⟩
theorem Bk.f {w : World} {B b : Nat} {l : List UInt8} (h : Bk w B b l) : Lib.IsBuilderF 107 5 B b (Lib.byteCells l) w := by
  rcases h with ⟨rfl, h⟩ | ⟨_, h⟩
  · exact h.imp Lib.BuilderAtF.of Lib.BuilderAtF.of
  · exact h
theorem Bk.below {w w1 : World} {B b : Nat} {l : List UInt8} (h : Bk w B b l) (hx : Below w.heap.size w w1) : Bk w1 B b l := by
  rcases h with ⟨rfl, h⟩ | ⟨h0, h⟩
  · exact .inl ⟨rfl, Bf.below h hx⟩
  · refine .inr ⟨h0, ?_⟩
    have key : ∀ p, Lib.BuilderAtF 107 5 B b p (Lib.byteCells l) w → Lib.BuilderAtF 107 5 B b p (Lib.byteCells l) w1 := fun p h => by
      obtain ⟨hB, v, hb, hown, hne⟩ := h
      refine ⟨hB, v, (hx.block b (lt_of_block hb)).trans hb, ⟨hown.1, ?_⟩, hne⟩
      rcases hown.2 with h | ⟨g, cap, cur, fz, e, h1, h2, h3⟩
      · exact .inl h
      · exact .inr ⟨g, cap, cur, fz, e, h1, (hx.block g (lt_of_block h2)).trans h2, h3⟩
    exact h.imp (key _) (key _)
theorem fwriteK (B b : Nat) (l : List UInt8) (s : ByteArray) (w : World) (h : Bk w B b l) (h0 : 0 < s.size) (hlen : l.length + s.size ≤ 4000000000) (hB : B ≤ w.heap.size) :
    Calls Try.prog 69 #[.pointer (some ⟨b, 0, none⟩), .string s] w fun e w' => e = .returned (.tuple #[.int .i64 s.size, .nilIface]) ∧ Bk w' B b (l ++ toL s) ∧ Below B w w' ∧ Lib.OthersKept 5 (some b) w w' := by
  refine (Go.Proofs.Any.Builder_WriteString_k (P := Try.prog) (ρ := Try.lays105_ren) { Try.lays105 with } Try.Builder_Extra_105 B b _ s w h.f (by rw [Lib.byteCells_length]; omega) hB).mono ?_
  rintro e w' ⟨rfl, h1, hx, hk⟩
  refine ⟨rfl, .inr ⟨?_, .inr ?_⟩, hx, hk⟩
  · intro e
    have := congrArg List.length e
    rw [List.length_append, toL_length, List.length_nil] at this
    omega
  · have e : Lib.byteCells (l ++ toL s) = Lib.byteCells l ++ Lib.strCells s := by simp [Lib.byteCells, Lib.strCells, toL]
    rw [e]
    exact h1
theorem fstringK (B b : Nat) (l : List UInt8) (w : World) (h : Bk w B b l) (hB : B ≤ w.heap.size) :
    Calls Try.prog 70 #[.pointer (some ⟨b, 0, none⟩)] w fun e w' => e = .returned (.string (ofB l)) ∧ Below B w w' := by
  rcases h with ⟨rfl, h⟩ | ⟨h0, h⟩
  · exact Try.Builder_String_any B b [] w h hB
  · refine (Go.Proofs.Any.Builder_String_k (P := Try.prog) Try.lays169 Try.Builder_Extra_169 B b l w h h0).mono ?_
    rintro e w' ⟨rfl, _, hx, _⟩
    exact ⟨rfl, hx⟩
/-- THE CLOSURE of Copy -/
theorem copy1_any (B b gf : Nat) (A : Option Addr) (len cap : Nat) (l : List ByteArray) (L : List UInt8) (k p m : Nat) (w : World) (hb : Bk w B b L) (hB : B ≤ w.heap.size)
    (hc : w.cell? ⟨gf, 0, none⟩ = some (.slice A len cap)) (hl : Ts w A len l) (hk : k < len) (hm : 0 < m) (hz : p + m ≤ (nth l k).size) (h1 : (nth l k).size ≤ 100000) (h2 : L.length ≤ 100000) :
    Calls Try.prog 68 #[.int .i64 k, .int .i64 p, .int .i64 m, .pointer (some ⟨b, 0, none⟩), .pointer (some ⟨gf, 0, none⟩)] w fun e w' => e = .returned (.tuple #[]) ∧ Bk w' B b (L ++ ((toL (nth l k)).drop p).take m) ∧ Below B w w' ∧ Lib.OthersKept 5 (some b) w w' := by
  obtain ⟨b0, off, rfl, hcell⟩ := hl.2 (by omega)
  have ck := hcell k hk
  have i1 : (k : Int) < (len : Int) := by omega
  have i2 : (p : Int) ≤ (p : Int) + (m : Int) := by omega
  have i3 : (p : Int) + (m : Int) ≤ ((nth l k).size : Int) := by omega
  have i4 : ((p : Int) + (m : Int)).toNat = p + m := by omega
  have i5 : IntKind.i64.wrap ((p : Int) + (m : Int)) = (p : Int) + (m : Int) := IntWalk.i64_in _ (by omega)
  have hw := fwriteK B b L ((nth l k).extract p (p + m)) w hb (by rw [ByteArray.size_extract]; omega) (by rw [ByteArray.size_extract]; omega) hB
  rw [toL_extract, show p + m - p = m from by omega] at hw
  generalize nth l k = t at *
  clear hcell hl hb
  go_enter Try.func68, Try.ntmps68
  go_wp2_with fail
  refine hw.mono ?_
  rintro e w' ⟨rfl, h1, h2, h3⟩
  go_wp2_with fail
  go_end0
  exact ⟨rfl, h1, h2, h3⟩
theorem Own.others {w w' : World} {b h : Nat} {cs : Array Value} {t : TypeId} (ho : Own w h t cs) (hk : Lib.OthersKept 5 (some b) w w') (hb : h ≠ b) (ht : t ≠ 5) : Own w' h t cs :=
  hk h _ ho (fun e => hb (Option.some.inj e)) (fun c fz e => by cases e; exact ht rfl)
theorem good_find {F : Mm.Fr} {s : Mm.Sp} {q : Nat} {w : Bool} {f : Int} {p : Nat} (h : Mm.find s q 1 w = some (f, p)) (ht : Mm.there F f) : Mm.good F s q w ∧ Mm.fn s q = f.toNat ∧ q % 128 = p := by
  obtain ⟨h1, h2, rfl, rfl⟩ := find_some h
  exact ⟨⟨h1.2.1, h2, ht⟩, rfl, rfl⟩
theorem copy_more {F : Mm.Fr} {s : Mm.Sp} {q k m : Nat} {L : List UInt8} {f : Int} {p : Nat} (h : Mm.copyB F s q k = some L) (hf : Mm.find s (q + k) 1 false = some (f, p)) (ht : Mm.there F f) (hm : p + m ≤ 128) :
    Mm.copyB F s q (k + m) = some (L ++ ((Mm.fr F f.toNat).drop p).take m) := by
  obtain ⟨g, e1, e2⟩ := good_find hf ht
  rw [Mm.copy_add, h, Option.bind_some, Mm.copy_page F s m (q + k) (by omega) g, e1, e2]
  rfl
/-- where Copy's builder, its box of the frames and its own box lie -/
structure Cs (W0 : World) (b gf h : Nat) (A : Option Addr) (len cap : Nat) (s : Mm.Sp) (L : List UInt8) (wr : World) : Prop where
  bk : Bk wr b b L
  sp : Own wr h 57 (sc s)
  fr : wr.cell? ⟨gf, 0, none⟩ = some (.slice A len cap)
  w0 : Below W0.heap.size W0 wr
  le : b < wr.heap.size
theorem Cs.below {W0 : World} {b gf h : Nat} {A : Option Addr} {len cap : Nat} {s : Mm.Sp} {L : List UInt8} {wr w1 : World} (c : Cs W0 b gf h A len cap s L wr) (hx : Below wr.heap.size wr w1) : Cs W0 b gf h A len cap s L w1 :=
  ⟨c.bk.below hx, (hx.block _ c.sp.lt).trans c.sp, (hx.cell (World.block_lt_of_cell? _ _ c.fr)).trans c.fr, c.w0.trans (hx.mono c.w0.size), Nat.lt_of_lt_of_le c.le hx.size⟩
set_option maxHeartbeats 1000000 in
theorem pieces68 (W0 : World) (b gf : Nat) (A : Option Addr) (len cap : Nat) (l : List ByteArray) (s : Mm.Sp) (hs : SpOk s) (q : Nat) (n : Int) (w : World) (hl : Tz W0 A len cap l) (hq : q < 4294967296) (h0 : -9223372036854775808 ≤ n) (h1 : n ≤ 9223372036854775807)
    (hW0 : W0.heap.size ≤ b) (hgf : gf < b) (hbk : Bk w b b []) (hfr : w.cell? ⟨gf, 0, none⟩ = some (.slice A len cap)) (hw0 : Below W0.heap.size W0 w) (hle : b < w.heap.size) :
    Calls Try.prog 67 #[.slice A len cap, .agg (sc s), .int .u32 (q : Nat), .int .i64 n, .bool false, .func (Fn.func 68) #[] #[.pointer (some ⟨b, 0, none⟩), .pointer (some ⟨gf, 0, none⟩)]] w fun e w' =>
      e = .returned (.bool (Mm.copyM (fs l) s q n).isSome) ∧ (∀ L, Mm.copyM (fs l) s q n = some L → Bk w' b b L) ∧ Below W0.heap.size W0 w' ∧ b < w'.heap.size := by
  have hlen : len ≤ 9223372036854775807 := Nat.le_trans hl.m (by decide)
  have C0 : Cs W0 b gf w.heap.size A len cap s [] (w.alloc (Obj.cells (sc s) 57)) :=
    ⟨hbk.below (grow _ _), Own.new _ _ _, ((grow w (Obj.cells (sc s) 57)).cell (World.block_lt_of_cell? _ _ hfr)).trans hfr, hw0.trans ((grow w (Obj.cells (sc s) 57)).mono hw0.size), Nat.lt_of_lt_of_le hle (grow _ _).size⟩
  clear hbk hfr hw0
  by_cases c : 0 ≤ n ∧ q ≤ 2048 ∧ (q : Int) + n ≤ 2048
  · rw [Mm.copyM, if_pos c]
    obtain ⟨c1, c2, c3⟩ := c
    obtain ⟨N, rfl⟩ := Int.eq_ofNat_of_zero_le c1
    rw [Int.toNat_natCast]
    have d1 : ¬ (N : Int) < 0 := by omega
    have d2 : ¬ 2048 < (q : Int) := by omega
    have d3 : ¬ 2048 - (q : Int) < (N : Int) := by omega
    have hhb : w.heap.size ≠ b := by omega
    go_enter Try.func67, Try.ntmps67
    go_wp2_with fail
    go_loopw [2, 3, 13, 14, 15, 16] (fun a i _ _ _ _ wr => ∃ (k : Nat) (L : List UInt8), k ≤ N ∧ a = .int .u32 ((q + k : Nat) : Int) ∧ i = .int .i64 ((N - k : Nat) : Int) ∧ Mm.copyB (fs l) s q k = some L ∧ Cs W0 b gf w.heap.size A len cap s L wr) (fun _ i _ _ _ _ _ => (intOf i).toNat)
    case atStart => exact ⟨0, [], Nat.zero_le _, rfl, rfl, Mm.copy_nil _ _ _, C0⟩
    case round =>
      clear C0
      obtain ⟨k, L, hk, rfl, rfl, hL, hC⟩ := hrel
      by_cases hlt : k < N
      · have hf := fun wr => find_any s hs (q + k) 1 false wr (by omega) (by decide) (by decide)
        unfold FindIs at hf
        have e1 : 0 < N - k := by omega
        have e2 : (0 : Int) < ((N - k : Nat) : Int) := by omega
        obtain ⟨M, hM⟩ : ∃ M, M = N - k := ⟨_, rfl⟩
        rw [← hM] at e1 e2 ⊢
        obtain ⟨a, ha⟩ : ∃ a, a = q + k := ⟨_, rfl⟩
        rw [← ha] at hf ⊢
        have hsp := hC.sp
        cases hr : Mm.find s a 1 false with
        | none =>
          have HNO := Lib.hid (copy_stop hlt (show Mm.byte (fs l) s (q + k) = none by rw [byte_find, ← ha, hr]))
          rw [hr] at hf
          simp only [Option.map_none, Option.getD_none, Option.isSome_none] at hf
          clear hM ha hL
          go_wp2_with (refine ls rfl rfl rfl hs hsp ?_)
          refine (hf _).mono ?_
          rintro e w4 ⟨rfl, hx4⟩
          have hC4 := hC.below hx4
          clear hf hsp hC
          go_wp2_with fail
          go_ret
          exact ⟨by rw [HNO.out]; rfl, (fun L' h => by rw [HNO.out] at h; cases h), hC4.w0, hC4.le⟩
        | some r =>
          obtain ⟨f, p⟩ := r
          obtain ⟨hok, -, -, hp⟩ := find_some hr
          have hp8 : p < 128 := by omega
          have ha2 := hok.2.1
          rw [hr] at hf
          simp only [Option.map_some, Option.getD_some, Option.isSome_some] at hf
          have hfm := fun wr (hh : Tz wr A len cap l) => frame_any A len cap l f wr hh.t hlen
          by_cases ht : Mm.there (fs l) f
          · rw [decide_eq_true ht] at hfm
            obtain ⟨m, hm⟩ : ∃ m, m = min M (128 - p) := ⟨_, rfl⟩
            have em : min (M : Int) (128 - (p : Int)) = (m : Int) := by omega
            have hm0 : 0 < m := by omega
            have hmp : p + m ≤ 128 := by omega
            have HMo := Lib.hid (copy_more hL (by rw [← ha]; exact hr) ht hmp)
            obtain ⟨kf, b0, off, rfl, hkf, rfl, -, hz, hfrm⟩ := there_get hl.t ht
            rw [hfrm] at HMo
            have hLl := Mm.copy_len _ _ _ _ _ hL
            have hc1 := fun wr (hc : Cs W0 b gf w.heap.size (some ⟨b0, off, none⟩) len cap s L wr) => copy1_any b b gf (some ⟨b0, off, none⟩) len cap l L kf p m wr hc.bk (Nat.le_of_lt hc.le) hc.fr ((hl.t).below hc.w0) hkf hm0 (by rw [hz]; exact hmp) (by omega) (by omega)
            have u1 : IntKind.u32.wrap (m : Int) = (m : Int) := u32_id m (by omega)
            have u2 : IntKind.u32.wrap ((a : Int) + (m : Int)) = (a : Int) + (m : Int) := by
              have := u32_id (a + m) (by omega)
              simpa using this
            have hmM : m ≤ M := by omega
            have u3 : IntKind.i64.wrap ((M : Int) - (m : Int)) = (M : Int) - (m : Int) := IntWalk.i64_in _ (by omega)
            have HA := Lib.hid ha
            have HMM := Lib.hid hM
            clear ht hok hr hz hfrm hp hL ha hM hm
            go_wp2_with (refine ls rfl rfl rfl hs hsp ?_)
            refine (hf _).mono ?_
            rintro e w4 ⟨rfl, hx4⟩
            have hC4 := hC.below hx4
            clear hf hsp hC hx4
            go_wp2_with fail
            refine (hfm _ (hl.below hC4.w0)).mono ?_
            rintro e w5 ⟨rfl, rfl⟩
            go_wp2_with fail
            refine (hc1 _ hC4).mono ?_
            rintro e w5 ⟨rfl, g1, g2, g3⟩
            have hC5 : Cs W0 b gf w.heap.size _ len cap s (L ++ ((toL (nth l kf)).drop p).take m) w5 :=
              ⟨g1, Own.others hC4.sp g3 hhb (by decide), (g2.cell hgf).trans hC4.fr, hC4.w0.trans (g2.mono hW0), Nat.lt_of_lt_of_le hC4.le g2.size⟩
            clear hC4 g1 g2 g3 hc1 hfm
            go_wp2_with fail
            go_roundw
            case rel =>
              have ha := HA.out
              have hM := HMM.out
              refine ⟨k + m, _, by omega, ?_, ?_, HMo.out, hC5⟩
              · rw [show q + (k + m) = a + m from by omega]; simp only [Int.natCast_add]
              · rw [show N - (k + m) = M - m from by omega]; congr 1; omega
            case measure => simp [intOf]; omega
          · rw [decide_eq_false ht] at hfm
            have HNO := Lib.hid (copy_stop hlt (show Mm.byte (fs l) s (q + k) = none by rw [byte_find, ← ha, hr]; exact if_neg ht))
            clear hM ha hL hr hok ht hp
            go_wp2_with (refine ls rfl rfl rfl hs hsp ?_)
            refine (hf _).mono ?_
            rintro e w4 ⟨rfl, hx4⟩
            have hC4 := hC.below hx4
            clear hf hsp hC hx4
            go_wp2_with fail
            refine (hfm _ (hl.below hC4.w0)).mono ?_
            rintro e w5 ⟨rfl, rfl⟩
            go_wp2_with fail
            go_ret
            exact ⟨by rw [HNO.out]; rfl, (fun L' h => by rw [HNO.out] at h; cases h), hC4.w0, hC4.le⟩
      · obtain rfl : k = N := by omega
        rw [Nat.sub_self]
        have HLL := Lib.hid hL
        clear hL
        go_wp2_with fail
        go_ret
        exact ⟨by rw [HLL.out]; rfl, (fun L' h => by rw [HLL.out] at h; cases h; exact hC.bk), hC.w0, hC.le⟩
  · rw [Mm.copyM, if_neg c]
    by_cases d1 : n < 0
    · go_enter Try.func67, Try.ntmps67
      go_wp2_with fail
      go_ret
      first | exact ⟨rfl, C0.w0, C0.le⟩ | exact ⟨rfl, (fun L h => by cases h), C0.w0, C0.le⟩
    · by_cases d2 : 2048 < (q : Int)
      · go_enter Try.func67, Try.ntmps67
        go_wp2_with fail
        go_ret
        first | exact ⟨rfl, C0.w0, C0.le⟩ | exact ⟨rfl, (fun L h => by cases h), C0.w0, C0.le⟩
      · have d3 : 2048 - (q : Int) < n := by omega
        have w1 : IntKind.i64.wrap (2048 - (q : Int)) = 2048 - (q : Int) := IntWalk.i64_in _ (by omega)
        go_enter Try.func67, Try.ntmps67
        go_wp2_with fail
        go_ret
        first | exact ⟨rfl, C0.w0, C0.le⟩ | exact ⟨rfl, (fun L h => by cases h), C0.w0, C0.le⟩
end Mo
end Go.Proofs.Ytkbelpkmlmfedaa
