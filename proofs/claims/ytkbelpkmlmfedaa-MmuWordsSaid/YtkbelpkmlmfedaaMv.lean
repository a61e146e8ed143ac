/-
  THE WALKS of what memory is read by: a frame's piece, a byte, a number; a row of frames copied.
-/
import Derived.Test.YtkbelpkmlmfedaaMw
import Derived.Test.YtkbelpkmlmfedaaEq
import Derived.Laws.AppendOwnNone
namespace Go.Proofs.Ytkbelpkmlmfedaa
set_option linter.unusedVariables false
set_option maxRecDepth 100000
set_option linter.unusedSimpArgs false
open Go.RowKit
namespace Mo
open _root_.Go.Proofs.Ytkbelpkmlmfedaa.Nm _root_.Go.Proofs.Ytkbelpkmlmfedaa.Xe
/-- a slice of frames that is nil or has an address -/
structure Tz (w : World) (A : Option Addr) (n cap : Nat) (l : List ByteArray) : Prop where
  t : Ts w A n l
  z : A = none → n = 0 ∧ cap = 0
  m : n ≤ 100000
theorem Tz.below {a b : World} {A : Option Addr} {n cap : Nat} {l : List ByteArray} (h : Tz a A n cap l) (k : Below a.heap.size a b) : Tz b A n cap l := ⟨h.t.below k, h.z, h.m⟩
theorem Tz.dr {a b : World} {A : Option Addr} {n cap : Nat} {l : List ByteArray} (h : Tz a A n cap l) (k : Dr a b) : Tz b A n cap l := ⟨h.t.dr k, h.z, h.m⟩
theorem Tz.of {w : World} {B : Nat} {A : Option Addr} {n cap : Nat} {l : List ByteArray} (h : RS w B A n cap l) (hm : n ≤ 100000) : Tz w A n cap l :=
  ⟨h.ts, (fun e => by
    rcases h.form with ⟨_, h1, h2⟩ | ⟨g, e2, _⟩
    · exact ⟨h1, h2⟩
    · rw [e] at e2; cases e2), hm⟩
theorem row_shape {w : World} {B : Nat} {v : Value} {n : Nat} {xs : List Value} (h : w.ownsRow B 9 1 v n xs) : ∃ A c, v = .slice A n c := by
  rcases h.2 with ⟨h1, h2⟩ | ⟨g, c, cur, h1, _⟩
  · subst h2; exact ⟨_, _, h1⟩
  · exact ⟨_, _, h1⟩
/-- a row of frames is copied -/
theorem clone_any (A : Option Addr) (n cap : Nat) (l : List ByteArray) (w : World) (h : Tz w A n cap l) :
    Calls Try.prog 65 #[.slice A n cap] w fun e w' => (∃ A' c', e = .returned (.slice A' n c') ∧ RS w' w.heap.size A' n c' l) ∧ Below w.heap.size w w' := by
  have hln := h.t.1
  have hm := h.m
  cases A with
  | none =>
    obtain ⟨rfl, rfl⟩ := h.z rfl
    have : l = [] := List.length_eq_zero_iff.1 hln
    subst this
    refine (Try.slices_Clone_string_nil 0 0 w).mono ?_
    rintro e w' ⟨rfl, rfl⟩
    exact ⟨⟨none, 0, rfl, RS.nil _ _⟩, Below.refl _ _⟩
  | some a =>
    by_cases h0 : n = 0
    · subst h0
      have : l = [] := List.length_eq_zero_iff.1 hln
      subst this
      refine (Try.slices_Clone_string_zero a cap w).mono ?_
      rintro e w' ⟨v, rfl, h1, _, h2⟩
      obtain ⟨A', c', rfl⟩ := row_shape h1
      exact ⟨⟨A', c', rfl, rfl, h1⟩, h2⟩
    · obtain ⟨b, off, e, hc⟩ := h.t.2 (by omega)
      cases e
      refine (Try.slices_Clone_string b off n cap l w (by omega) (by omega) (fun j hj => hc j (by omega))).mono ?_
      rintro e w' ⟨v, rfl, h1, _, h2⟩
      obtain ⟨A', c', rfl⟩ := row_shape h1
      refine ⟨⟨A', c', rfl, hln, ?_⟩, h2⟩
      rw [List.take_of_length_le (by omega)] at h1
      exact h1
/-- a whole row onto an empty one -/
theorem app_all {w : World} {ops : Array Oper} {rest : List Oper} {o : Oper} {a : Act} {Q : Exit → Act → World → Prop} (hgd : o.guard = none) (s x : Operand)
    (ho : o.op = .call { callee := .builtin .append, args := #[s, x], argTypes := #[53, 53] })
    (B : Nat) (g0 c0 : Nat) (hs : a.eval s = .slice (some ⟨g0, 0, none⟩) 0 c0) (hr : RS w B (some ⟨g0, 0, none⟩) 0 c0 [])
    (A : Option Addr) (n cap : Nat) (l : List ByteArray) (hx : a.eval x = .slice A n cap) (ht : Tz w A n cap l) (hB : B ≤ w.heap.size)
    (h : ∀ A' c' w', RS w' B A' n c' l → Below B w w' → wpList Try.prog ops Q rest (a.put o.dst (.slice A' n c')) w') : wpList Try.prog ops Q (o :: rest) a w := by
  obtain ⟨i0, hi, hz0, hz1, hz2⟩ := info_parts info9
  have hln := ht.t.1
  have hm := ht.m
  cases A with
  | none =>
    obtain ⟨rfl, rfl⟩ := ht.z rfl
    have : l = [] := List.length_eq_zero_iff.1 hln
    subst this
    exact wpList_append_own_none hgd s x 53 ho B 9 i0 1 Try.underlying53 hi _ 0 [] hs hr.2 hx (h _ _ w hr (Below.refl _ _))
  | some ad =>
    have hc : ∀ j u, (l.map sv)[j]? = some u → w.cell? (ad.add j) = some u := by
      intro j u hu
      by_cases h0 : n = 0
      · have : l = [] := List.length_eq_zero_iff.1 (hln.trans h0)
        subst this
        simp at hu
      · obtain ⟨b, off, e, hc⟩ := ht.t.2 (by omega)
        cases e
        obtain ⟨hj, rfl⟩ := List.getElem?_eq_some_iff.1 hu
        have hj' : j < l.length := by simpa using hj
        rw [addr_add, hc j (by omega), List.getElem_map, nth_eq hj']
        rfl
    refine wpList_append_own w hgd s x 53 ho B 9 i0 (.string ⟨#[]⟩) 1 16 Try.underlying53 hi hz0 hz1 hz2 rfl (by decide) _ 0 [] hs hr.2 ad n cap (l.map sv) hx (by simp [hln]) hc ?_ (by unfold maxLen; omega) (by omega) hB ?_
    · intro u hu
      obtain ⟨y, _, rfl⟩ := List.mem_map.1 hu
      rfl
    · intro v' w' h1 h2 _
      rw [Nat.zero_add] at h1
      obtain ⟨A', c', rfl⟩ := row_shape h1
      refine h A' c' w' ⟨hln, h1⟩ ?_
      refine (Below.refl B w).grown h2 hB fun k hk => ?_
      exact (hr.2.lt k hk).1
/-- bytes as a text -/
def ofB (l : List UInt8) : ByteArray := ⟨l.toArray⟩
theorem toL_of (l : List UInt8) : toL (ofB l) = l := by simp [toL, ofB]
theorem of_toL (b : ByteArray) : ofB (toL b) = b := toL_inj (toL_of _)
theorem of_size (l : List UInt8) : (ofB l).size = l.length := by rw [← toL_length, toL_of]
theorem toL_app' (a b : ByteArray) : toL (a ++ b) = toL a ++ toL b := by simp [toL]
theorem over_eq (f d : ByteArray) (p : Nat) : f.extract 0 p ++ d ++ f.extract (p + d.size) f.size = ofB (Mm.over (toL f) p (toL d)) := by
  apply toL_inj
  rw [toL_app', toL_app', toL_of, toL_extract, toL_extract]
  unfold Mm.over
  rw [List.drop_zero, Nat.sub_zero, toL_length]
  congr 1
  exact List.take_of_length_le (by rw [List.length_drop, toL_length]; exact Nat.le_refl _)
theorem over_any (f d : ByteArray) (p : Nat) (w : World) (h : p + d.size ≤ f.size) (hf : f.size ≤ 100000) :
    Calls Try.prog 66 #[.string f, .int .i64 p, .string d] w fun e w' => e = .returned (.string (ofB (Mm.over (toL f) p (toL d)))) ∧ Dr w w' := by
  have HO := Lib.hid (over_eq f d p)
  have i1 : (p : Int) ≤ (f.size : Int) := by omega
  have i2 : (p : Int) + (d.size : Int) ≤ (f.size : Int) := by omega
  have i3 : IntKind.i64.wrap ((p : Int) + (d.size : Int)) = (p : Int) + (d.size : Int) := IntWalk.i64_in _ (by omega)
  have z1 : (f.extract 0 p).size = p := by rw [ByteArray.size_extract]; omega
  have z2 : (f.extract (p + d.size) f.size).size = f.size - (p + d.size) := by rw [ByteArray.size_extract]; omega
  have i4 : ((p : Int) + (d.size : Int)).toNat = p + d.size := by omega
  generalize hA : f.extract 0 p = A at *
  generalize hC : f.extract (p + d.size) f.size = C at *
  have y1 : ¬ 9223372036854775807 < A.size + d.size := by omega
  have y2 : ¬ 9223372036854775807 < A.size + d.size + C.size := by omega
  have y3 : ¬ 9223372036854775807 < (A ++ d).size + C.size := by rw [ByteArray.size_append]; omega
  clear z1 z2
  go_enter Try.func66, Try.ntmps66
  go_wp2_with fail
  go_quiet (fail)
  go_wp2_with fail
  go_ret
  exact ⟨by rw [HO.out]; rfl, ⟨_, rfl⟩⟩
theorem find_some {s : Mm.Sp} {q : Nat} {n : Int} {w : Bool} {f : Int} {p : Nat} (h : Mm.find s q n w = some (f, p)) : Mm.okAt q n ∧ Mm.may (Mm.pt s (q / 128)) w ∧ f = (Mm.pt s (q / 128)).f ∧ p = q % 128 := by
  unfold Mm.find at h
  by_cases k : Mm.okAt q n ∧ Mm.may (Mm.pt s (q / 128)) w
  · rw [if_pos k] at h
    cases h
    exact ⟨k.1, k.2, rfl, rfl⟩
  · rw [if_neg k] at h; cases h
theorem find_none {s : Mm.Sp} {q : Nat} {n : Int} {w : Bool} (h : Mm.find s q n w = none) : ¬ (Mm.okAt q n ∧ Mm.may (Mm.pt s (q / 128)) w) := by
  intro k
  unfold Mm.find at h
  rw [if_pos k] at h; cases h
def LoadIs (r : Option Nat) (e : Ending) : Prop := e = .returned (.tuple #[.int .u32 (r.getD 0 : Nat), .bool r.isSome])
def ByteIs (r : Option UInt8) (e : Ending) : Prop := e = .returned (.tuple #[.int .u8 ((r.getD 0).toNat : Nat), .bool r.isSome])
theorem load_find (F : Mm.Fr) (s : Mm.Sp) (q : Nat) (n : Int) : Mm.loadM F s q n = match Mm.find s q n false with
    | none => none
    | some (f, p) => if Mm.there F f then some (Nu.getB (((Mm.fr F f.toNat).drop p).take n.toNat)) else none := by
  cases h : Mm.find s q n false with
  | none => exact if_neg fun k => find_none h ⟨k.1, k.2.2.1⟩
  | some r =>
    obtain ⟨f, p⟩ := r
    obtain ⟨h1, h2, rfl, rfl⟩ := find_some h
    show (if _ then _ else _) = if _ then _ else _
    by_cases ht : Mm.there F (Mm.pt s (q / 128)).f
    · rw [if_pos ht, if_pos ⟨h1, h1.2.1, h2, ht⟩]; rfl
    · rw [if_neg ht, if_neg (fun k => ht k.2.2.2)]
theorem byte_find (F : Mm.Fr) (s : Mm.Sp) (q : Nat) : Mm.byte F s q = match Mm.find s q 1 false with
    | none => none
    | some (f, p) => if Mm.there F f then some ((Mm.fr F f.toNat).getD p 0) else none := by
  cases h : Mm.find s q 1 false with
  | none => exact if_neg fun k => find_none h ⟨⟨.inl rfl, k.1, Nat.mod_one q⟩, k.2.1⟩
  | some r =>
    obtain ⟨f, p⟩ := r
    obtain ⟨h1, h2, rfl, rfl⟩ := find_some h
    show (if _ then _ else _) = if _ then _ else _
    by_cases ht : Mm.there F (Mm.pt s (q / 128)).f
    · rw [if_pos ht, if_pos ⟨h1.2.1, h2, ht⟩]; rfl
    · rw [if_neg ht, if_neg (fun k => ht k.2.2)]
theorem there_get {w : World} {A : Option Addr} {n : Nat} {l : List ByteArray} {f : Int} (h : Ts w A n l) (ht : Mm.there (fs l) f) :
    ∃ (k : Nat) (b off : Nat), f = (k : Int) ∧ k < n ∧ A = some ⟨b, off, none⟩ ∧ (∀ i, i < n → w.cell? ⟨b, off + i, none⟩ = some (.string (nth l i))) ∧ (nth l k).size = 128 ∧ Mm.fr (fs l) f.toNat = toL (nth l k) := by
  obtain ⟨h0, h1, h2⟩ := ht
  obtain ⟨k, rfl⟩ := Int.eq_ofNat_of_zero_le h0
  rw [fs_length, h.1] at h1
  have hk : k < n := by omega
  obtain ⟨b, off, e, hc⟩ := h.2 (by omega)
  rw [Int.toNat_natCast, fr_fs _ _ (by rw [h.1]; exact hk)] at h2
  rw [Int.toNat_natCast, fr_fs _ _ (by rw [h.1]; exact hk)]
  exact ⟨k, b, off, rfl, hk, e, hc, by rw [← toL_length]; exact h2, rfl⟩
set_option maxHeartbeats 2000000 in
theorem load_any (A : Option Addr) (len cap : Nat) (l : List ByteArray) (s : Mm.Sp) (hs : SpOk s) (q : Nat) (n : Int) (w : World) (hl : Tz w A len cap l) (hq : q < 4294967296) (h0 : -9223372036854775808 ≤ n) (h1 : n ≤ 9223372036854775807) :
    Calls Try.prog 33 #[.slice A len cap, .agg (sc s), .int .u32 (q : Nat), .int .i64 n] w fun e w' => LoadIs (Mm.loadM (fs l) s q n) e ∧ Below w.heap.size w w' := by
  have hb := grow w (Obj.cells (sc s) 57)
  have ho := Own.new w 57 (sc s)
  have hl1 := hl.below hb
  have hf := fun wr => find_any s hs q n false wr hq h0 h1
  rw [load_find]
  unfold LoadIs
  unfold FindIs at hf
  have hlen : len ≤ 9223372036854775807 := Nat.le_trans hl.m (by decide)
  cases hr : Mm.find s q n false with
  | none =>
    rw [hr] at hf
    simp only [Option.map_none, Option.getD_none, Option.isSome_none] at hf ⊢
    go_enter Try.func33, Try.ntmps33
    go_wp2_with (refine ls rfl rfl rfl hs ho ?_)
    refine (hf _).mono ?_
    rintro e w1 ⟨rfl, hx1⟩
    have hb1 := hb.trans (hx1.mono hb.size)
    clear hf ho hb hl1
    go_wp2_with fail
    go_ret2
    exact ⟨rfl, hb1⟩
  | some r =>
    obtain ⟨f, p⟩ := r
    obtain ⟨hok, -, -, hp⟩ := find_some hr
    have hpg := Mm.ok_page hok
    rw [← hp] at hpg
    rw [hr] at hf
    simp only [Option.map_some, Option.getD_some, Option.isSome_some] at hf ⊢
    by_cases ht : Mm.there (fs l) f
    · rw [if_pos ht]
      obtain ⟨k, b, off, rfl, hk, rfl, -, hz, hfr⟩ := there_get hl1.t ht
      rw [hfr]
      have hfm := fun wr (hh : Tz wr (some ⟨b, off, none⟩) len cap l) => frame_any (some ⟨b, off, none⟩) len cap l (k : Int) wr hh.t hlen
      rw [decide_eq_true ht] at hfm
      obtain ⟨p1, p2, p3, p4⟩ := hpg
      generalize hN : n.toNat = N at *
      subst p4
      simp only [Option.getD_some, Option.isSome_some]
      have hnum := fun wr => num_get (nth l k) p N wr (by omega) (by omega)
      have hv : num (nth l k) p N = Nu.getB (((toL (nth l k)).drop p).take N) := rfl
      have hvl : num (nth l k) p N < 4294967296 := Em.get_lt _ 4 (Nat.le_trans (Em.at_le _ _ _) p3)
      rw [← hv]
      have u1 := u32_id _ hvl
      generalize num (nth l k) p N = v at *
      have i1 : (p : Int) ≤ (p : Int) + (N : Int) := by omega
      have i2 : (p : Int) + (N : Int) ≤ ((nth l k).size : Int) := by omega
      have i3 : IntKind.i64.wrap ((p : Int) + (N : Int)) = (p : Int) + (N : Int) := IntWalk.i64_in _ (by omega)
      have i4 : ((p : Int) + (N : Int)).toNat = p + N := by omega
      have i5 : (k : Int) < (len : Int) := by omega
      clear hv hvl hfr hok hr ht hN hz hp
      go_enter Try.func33, Try.ntmps33
      go_wp2_with (refine ls rfl rfl rfl hs ho ?_)
      refine (hf _).mono ?_
      rintro e w1 ⟨rfl, hx1⟩
      have hb1 := hb.trans (hx1.mono hb.size)
      have hl2 := hl1.below hx1
      clear hf ho hb hl1 hl hx1
      go_wp2_with fail
      refine (hfm _ hl2).mono ?_
      rintro e w2 ⟨rfl, rfl⟩
      obtain ⟨b', off', e', hc⟩ := hl2.t.2 (by omega)
      cases e'
      have ck := hc k hk
      clear hc hfm hl2
      generalize nth l k = t at *
      go_wp2_with fail
      refine (hnum _).mono ?_
      rintro e w2 ⟨rfl, rfl⟩
      go_wp2_with fail
      go_ret2
      exact ⟨rfl, hb1⟩
    · rw [if_neg ht]
      have hfm := fun wr (hh : Tz wr A len cap l) => frame_any A len cap l f wr hh.t hlen
      rw [decide_eq_false ht] at hfm
      simp only [Option.getD_none, Option.isSome_none]
      clear hpg
      go_enter Try.func33, Try.ntmps33
      go_wp2_with (refine ls rfl rfl rfl hs ho ?_)
      refine (hf _).mono ?_
      rintro e w1 ⟨rfl, hx1⟩
      have hb1 := hb.trans (hx1.mono hb.size)
      have hl2 := hl1.below hx1
      clear hf ho hb hl1 hl hx1
      go_wp2_with fail
      refine (hfm _ hl2).mono ?_
      rintro e w2 ⟨rfl, rfl⟩
      go_wp2_with fail
      go_ret2
      exact ⟨rfl, hb1⟩
set_option maxHeartbeats 2000000 in
theorem byte_any (A : Option Addr) (len cap : Nat) (l : List ByteArray) (s : Mm.Sp) (hs : SpOk s) (q : Nat) (w : World) (hl : Tz w A len cap l) (hq : q < 4294967296) :
    Calls Try.prog 64 #[.slice A len cap, .agg (sc s), .int .u32 (q : Nat)] w fun e w' => ByteIs (Mm.byte (fs l) s q) e ∧ Below w.heap.size w w' := by
  have hb := grow w (Obj.cells (sc s) 57)
  have ho := Own.new w 57 (sc s)
  have hl1 := hl.below hb
  have hf := fun wr => rfind_any s hs q 1 false wr hq (by decide) (by decide)
  rw [byte_find]
  unfold ByteIs
  unfold FindIs at hf
  have hlen : len ≤ 9223372036854775807 := Nat.le_trans hl.m (by decide)
  cases hr : Mm.find s q 1 false with
  | none =>
    rw [hr] at hf
    simp only [Option.map_none, Option.getD_none, Option.isSome_none] at hf ⊢
    go_enter Try.func64, Try.ntmps64
    go_wp2_with (refine ls rfl rfl rfl hs ho ?_)
    refine (hf _).mono ?_
    rintro e w1 ⟨rfl, hx1⟩
    have hb1 := hb.trans (hx1.mono hb.size)
    clear hf ho hb hl1
    go_wp2_with fail
    go_ret2
    exact ⟨rfl, hb1⟩
  | some r =>
    obtain ⟨f, p⟩ := r
    obtain ⟨hok, -, -, hp⟩ := find_some hr
    have hpg : p < 128 := by omega
    rw [hr] at hf
    simp only [Option.map_some, Option.getD_some, Option.isSome_some] at hf ⊢
    by_cases ht : Mm.there (fs l) f
    · rw [if_pos ht]
      obtain ⟨k, b, off, rfl, hk, rfl, -, hz, hfr⟩ := there_get hl1.t ht
      rw [hfr]
      have hfm := fun wr (hh : Tz wr (some ⟨b, off, none⟩) len cap l) => rframe_any (some ⟨b, off, none⟩) len cap l (k : Int) wr hh.t hlen
      rw [decide_eq_true ht] at hfm
      simp only [Option.getD_some, Option.isSome_some]
      have hlt : p < (nth l k).size := by omega
      have hv : (nth l k)[p]'hlt = (toL (nth l k)).getD p 0 := bt_get (b := nth l k) (k := p) (by omega)
      generalize (toL (nth l k)).getD p 0 = c at *
      have i2 : (p : Int) < ((nth l k).size : Int) := by omega
      have i3 : p < (nth l k).size := by omega
      have i5 : (k : Int) < (len : Int) := by omega
      clear hfr hok hr ht hp
      go_enter Try.func64, Try.ntmps64
      go_wp2_with (refine ls rfl rfl rfl hs ho ?_)
      refine (hf _).mono ?_
      rintro e w1 ⟨rfl, hx1⟩
      have hb1 := hb.trans (hx1.mono hb.size)
      have hl2 := hl1.below hx1
      clear hf ho hb hl1 hl hx1
      go_wp2_with fail
      refine (hfm _ hl2).mono ?_
      rintro e w2 ⟨rfl, rfl⟩
      obtain ⟨b', off', e', hc⟩ := hl2.t.2 (by omega)
      cases e'
      have ck := hc k hk
      clear hc hfm hl2
      generalize nth l k = t at *
      go_wp2_with fail
      go_ret2
      exact ⟨rfl, hb1⟩
    · rw [if_neg ht]
      have hfm := fun wr (hh : Tz wr A len cap l) => rframe_any A len cap l f wr hh.t hlen
      rw [decide_eq_false ht] at hfm
      simp only [Option.getD_none, Option.isSome_none]
      go_enter Try.func64, Try.ntmps64
      go_wp2_with (refine ls rfl rfl rfl hs ho ?_)
      refine (hf _).mono ?_
      rintro e w1 ⟨rfl, hx1⟩
      have hb1 := hb.trans (hx1.mono hb.size)
      have hl2 := hl1.below hx1
      clear hf ho hb hl1 hl hx1
      go_wp2_with fail
      refine (hfm _ hl2).mono ?_
      rintro e w2 ⟨rfl, rfl⟩
      go_wp2_with fail
      go_ret2
      exact ⟨rfl, hb1⟩
theorem get_step {t : List UInt8} {p k N : Nat} (h : p + k < t.length) (hk : k < N) : Nu.getB ((t.drop (p + k)).take (N - k)) = Nu.getB ((t.drop (p + (k + 1))).take (N - (k + 1))) * 256 + (t.getD (p + k) 0).toNat := by
  rw [show N - k = (N - (k + 1)) + 1 from by omega, Mm.drop_take_cons h, Nu.getB, show p + k + 1 = p + (k + 1) from by omega]
  omega
set_option maxHeartbeats 2000000 in
theorem rload_any (A : Option Addr) (len cap : Nat) (l : List ByteArray) (s : Mm.Sp) (hs : SpOk s) (q : Nat) (n : Int) (w : World) (hl : Tz w A len cap l) (hq : q < 4294967296) (h0 : -9223372036854775808 ≤ n) (h1 : n ≤ 9223372036854775807) :
    Calls Try.prog 34 #[.slice A len cap, .agg (sc s), .int .u32 (q : Nat), .int .i64 n] w fun e w' => LoadIs (Mm.loadM (fs l) s q n) e ∧ Below w.heap.size w w' := by
  have hb := grow w (Obj.cells (sc s) 57)
  have ho := Own.new w 57 (sc s)
  have hl1 := hl.below hb
  have hf := fun wr => rfind_any s hs q n false wr hq h0 h1
  unfold LoadIs
  unfold FindIs at hf
  cases hr : Mm.find s q n false with
  | none =>
    rw [show Mm.loadM (fs l) s q n = none from by rw [load_find, hr]]
    rw [hr] at hf
    simp only [Option.map_none, Option.getD_none, Option.isSome_none] at hf ⊢
    go_enter Try.func34, Try.ntmps34
    go_wp2_with (refine ls rfl rfl rfl hs ho ?_)
    refine (hf _).mono ?_
    rintro e w1 ⟨rfl, hx1⟩
    have hb1 := hb.trans (hx1.mono hb.size)
    clear hf ho hb hl1
    go_wp2_with fail
    go_ret2
    exact ⟨rfl, hb1⟩
  | some r =>
    obtain ⟨f, p⟩ := r
    obtain ⟨hok, -, -, hp⟩ := find_some hr
    have hq2 := hok.2.1
    obtain ⟨p1, p2, p3, p4⟩ := Mm.ok_page hok
    have hM : Mm.loadM (fs l) s q n = if Mm.good (fs l) s q false then some (Nu.getB (((Mm.fr (fs l) (Mm.fn s q)).drop (q % 128)).take n.toNat)) else none := by
      unfold Mm.loadM
      by_cases g : Mm.good (fs l) s q false
      · rw [if_pos ⟨hok, g⟩, if_pos g]
      · rw [if_neg (fun k => g k.2), if_neg g]
    rw [hM]
    clear hM
    rw [hr] at hf
    simp only [Option.map_some, Option.getD_some, Option.isSome_some] at hf
    generalize hN : n.toNat = N at *
    subst p4
    have hby := fun (k : Nat) (hk : k < N) wr (hh : Tz wr A len cap l) => byte_any A len cap l s hs (q + k) wr hh (by omega)
    unfold ByteIs at hby
    clear hok hr hN
    by_cases g : Mm.good (fs l) s q false
    · have hgl := Mm.good_len g
      have hbe : ∀ k, k < N → Mm.byte (fs l) s (q + k) = some ((Mm.fr (fs l) (Mm.fn s q)).getD (q % 128 + k) 0) := by
        intro k hk
        rw [Mm.byte_good ((Mm.good_at (by omega)).2 g), Mm.fn_at (by omega), (Mm.page_at (by omega)).2]
      rw [if_pos g]
      generalize Mm.fr (fs l) (Mm.fn s q) = t at *
      simp only [Option.getD_some, Option.isSome_some]
      obtain ⟨V, hV⟩ : ∃ V, V = Nu.getB ((t.drop (q % 128)).take N) := ⟨_, rfl⟩
      rw [← hV]
      have HV := Lib.hid hV
      clear g hV
      go_enter Try.func34, Try.ntmps34
      go_wp2_with (refine ls rfl rfl rfl hs ho ?_)
      refine (hf _).mono ?_
      rintro e w1 ⟨rfl, hx1⟩
      have hb1 := hb.trans (hx1.mono hb.size)
      have hl2 := hl1.below hx1
      have ho1 : Own w1 w.heap.size 57 (sc s) := (hx1.block _ ho.lt).trans ho
      clear hf ho hb hl1 hl hx1
      go_wp2_with fail
      go_loopw [13, 14, 15, 16] (fun v i _ _ wr => ∃ k : Nat, k ≤ N ∧ i = .int .i64 ((k : Int) - 1) ∧ v = .int .u32 (Nu.getB ((t.drop (q % 128 + k)).take (N - k)) : Nat) ∧ Below w1.heap.size w1 wr) (fun _ i _ _ _ => (intOf i + 1).toNat)
      case atStart =>
        refine ⟨N, Nat.le_refl _, rfl, ?_, Below.refl _ _⟩
        rw [Nat.sub_self, List.take_zero]
        rfl
      case round =>
        obtain ⟨k, hk, rfl, rfl, hbr⟩ := hrel
        cases k with
        | zero =>
          simp only [Nat.add_zero, Nat.sub_zero]
          rw [← HV.out]
          go_wp2_with fail
          go_ret2
          exact ⟨rfl, hb1.trans (hbr.mono hb1.size)⟩
        | succ j =>
          have hc := hby j (by omega) wr (hl2.below hbr)
          have hstep := get_step (t := t) (p := q % 128) (k := j) (N := N) (by omega) (by omega)
          have hlt : Nu.getB ((t.drop (q % 128 + j)).take (N - j)) < 256 ^ 4 := Em.get_lt _ 4 (by simp; omega)
          rw [hbe j (by omega)] at hc
          simp only [Option.getD_some, Option.isSome_some] at hc
          have HB := Lib.hid hstep
          rw [hstep] at hlt
          generalize hvv : Nu.getB ((t.drop (q % 128 + (j + 1))).take (N - (j + 1))) = v at *
          generalize (t.getD (q % 128 + j) 0).toNat = c at *
          have ho2 : Own wr w.heap.size 57 (sc s) := (hbr.block _ ho1.lt).trans ho1
          have e1 : ((j + 1 : Nat) : Int) - 1 = (j : Int) := by omega
          have u1 : IntKind.u32.wrap ((v : Int) * 256) = (v : Int) * 256 := by
            have := u32_id (v * 256) (by omega)
            simpa using this
          have u2 : IntKind.u32.wrap ((v : Int) * 256 + (c : Int)) = (v : Int) * 256 + (c : Int) := by
            have := u32_id (v * 256 + c) (by omega)
            simpa using this
          have u3 : IntKind.u32.wrap ((q : Int) + (j : Int)) = (q : Int) + (j : Int) := by
            have := u32_id (q + j) (by omega)
            simpa using this
          simp only [Int.natCast_add] at hc
          have HL := Lib.hid (show v * 256 + c < 4294967296 by omega)
          clear hstep hvv hbe hby hlt
          rw [e1]
          go_wp2_with (refine ls rfl rfl rfl hs ho2 ?_)
          refine hc.mono ?_
          rintro e w4 ⟨rfl, hx4⟩
          have hbr' := hbr.trans (hx4.mono hbr.size)
          clear hc ho2 hbr
          go_wp2_with fail
          go_roundw
          case rel =>
            refine ⟨j, by omega, by go_num, ?_, hbr'⟩
            rw [HB.out]
            simp
            have := HL.out
            omega
          case measure => simp [intOf]
    · rw [if_neg g]
      have hbn : Mm.byte (fs l) s (q + (N - 1)) = none := Mm.byte_none fun k => g ((Mm.good_at (by omega)).1 k)
      simp only [Option.getD_none, Option.isSome_none]
      go_enter Try.func34, Try.ntmps34
      go_wp2_with (refine ls rfl rfl rfl hs ho ?_)
      refine (hf _).mono ?_
      rintro e w1 ⟨rfl, hx1⟩
      have hb1 := hb.trans (hx1.mono hb.size)
      have hl2 := hl1.below hx1
      have ho1 : Own w1 w.heap.size 57 (sc s) := (hx1.block _ ho.lt).trans ho
      clear hf ho hb hl1 hl hx1
      go_wp2_with fail
      go_loopw [13, 14, 15, 16] (fun v i _ _ wr => i = .int .i64 ((N : Int) - 1) ∧ v = .int .u32 0 ∧ w1 = wr) (fun _ i _ _ _ => (intOf i + 1).toNat)
      case atStart => exact ⟨rfl, rfl, rfl⟩
      case round =>
        obtain ⟨rfl, rfl, rfl⟩ := hrel
        have hc := hby (N - 1) (by omega) w1 hl2
        rw [hbn] at hc
        simp only [Option.getD_none, Option.isSome_none] at hc
        obtain ⟨j, hj⟩ : ∃ j, j = N - 1 := ⟨_, rfl⟩
        rw [← hj] at hc
        have e1 : (N : Int) - 1 = (j : Int) := by omega
        have hj4 : j < 4 := by omega
        have u3 : IntKind.u32.wrap ((q : Int) + (j : Int)) = (q : Int) + (j : Int) := by
          have := u32_id (q + j) (by omega)
          simpa using this
        simp only [Int.natCast_add] at hc
        rw [e1]
        clear hbn hby hj e1
        go_wp2_with (refine ls rfl rfl rfl hs ho1 ?_)
        refine hc.mono ?_
        rintro e w4 ⟨rfl, hx4⟩
        go_wp2_with fail
        go_ret2
        exact ⟨rfl, hb1.trans (hx4.mono hb1.size)⟩
end Mo
end Go.Proofs.Ytkbelpkmlmfedaa
