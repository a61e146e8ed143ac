/-
  THE WALK of the law of readings: of any row whether it is a volume, and what comes of it.
-/
import Derived.Test.YtjfehloohpnmpaaDoorGr
namespace Go.Proofs.YtjfehloohpnmpaaDoor
set_option linter.unusedVariables false
set_option maxRecDepth 100000
set_option linter.unusedSimpArgs false
open Go.RowKit
namespace Dw
open _root_.Go.Proofs.YtjfehloohpnmpaaDoor.Nm
def GrIs (e : Ending) : Prop := e = .returned (.int .i64 1) ∨ e = .returned (.int .i64 0)
theorem great_any (A : Option Addr) (n c : Nat) (l : List ByteArray) (w : World) (h : Tz w A n c l) (hL : Lit l n) :
    Calls Tryd.prog 15 #[.slice A n c] w fun e w' => GrIs e ∧ w = w' := by
  have hm := h.m
  go_enter Tryd.func15, Tryd.ntmps15
  go_wp2_with fail
  go_loop [3, 8] (fun s i => ∃ (k : Nat) (z : Int), k ≤ n ∧ i = .int .i64 k ∧ s = .int .i64 z) (fun _ i => n - (intOf i).toNat)
  case atStart => exact ⟨0, 0, Nat.zero_le _, rfl, rfl⟩
  case round =>
    obtain ⟨k, z, hk, rfl, rfl⟩ := hrel
    by_cases hlt : k < n
    · obtain ⟨b, off, rfl, hc⟩ := h.t.2 (by omega)
      have c1 := hc k hlt
      have b1 : (k : Int) < (n : Int) := by omega
      have hs := hL k hlt
      clear hc
      generalize nth l k = T at *
      obtain ⟨p, hp⟩ : ∃ p, IntKind.i64.wrap ((T.size : Int) + 1) = p := ⟨_, rfl⟩
      obtain ⟨q, hq⟩ : ∃ q, IntKind.i64.wrap (z + p) = q := ⟨_, rfl⟩
      by_cases hg : 30000 < q
      · go_wp2_with fail
        go_ret
        exact ⟨.inl rfl, rfl⟩
      · go_wp2_with fail
        go_round
        case rel => exact ⟨k + 1, q, by omega, by go_num, rfl⟩
        case measure => simp [intOf]; omega
    · obtain rfl : k = n := by omega
      go_wp2_with fail
      go_ret
      exact ⟨.inr rfl, rfl⟩
/-- what 'of' answers, in cells -/
def OfP (l : List ByteArray) (cs : Array Value) (k : Int) : Prop := (∃ b n, Vol l b n ∧ cs = gc b n ∧ k = 0) ∨ ((∀ b n, ¬ Vol l b n) ∧ cs = gz ∧ k = 3)
theorem of_p {l : List ByteArray} {e : Ending} (h : OfIs l e) : ∃ cs k, e = .returned (.tuple #[.agg cs, .int .i64 k]) ∧ OfP l cs k := by
  rcases h with ⟨b, n, hv, rfl⟩ | ⟨hn, rfl⟩
  · exact ⟨_, _, rfl, .inl ⟨b, n, hv, rfl, rfl⟩⟩
  · exact ⟨_, _, rfl, .inr ⟨hn, rfl, rfl⟩⟩
theorem OfP.one {l : List ByteArray} {cs : Array Value} {k : Int} (h : OfP l cs k) : One cs := by
  rcases h with ⟨_, _, _, rfl, _⟩ | ⟨_, rfl, _⟩
  · exact gc_one _ _
  · exact gz_one
theorem OfP.eq {l : List ByteArray} {cs : Array Value} {k : Int} (h : OfP l cs k) : Eq24 cs := by
  rcases h with ⟨_, _, _, rfl, _⟩ | ⟨_, rfl, _⟩
  · exact gc_eq _ _
  · exact gz_eq
theorem OfP.uniq {l : List ByteArray} {cs ds : Array Value} {k q : Int} (h : OfP l cs k) (h' : OfP l ds q) : ds = cs ∧ q = k := by
  rcases h with ⟨b, n, hv, rfl, rfl⟩ | ⟨hn, rfl, rfl⟩ <;> rcases h' with ⟨b', n', hv', rfl, rfl⟩ | ⟨hn', rfl, rfl⟩
  · obtain ⟨rfl, rfl⟩ := hv.uniq hv'
    exact ⟨rfl, rfl⟩
  · exact absurd hv (hn' _ _)
  · exact absurd hv' (hn _ _)
  · exact ⟨rfl, rfl⟩
theorem Says.uniq {p : Prop} {r q : Bool} (h : r = true ↔ p) (h' : q = true ↔ p) : q = r := by
  cases r <;> cases q <;> simp_all
def RmP (l : List ByteArray) (q : Int) : Prop := (∃ b n, Vol l b n ∧ q = (freeN (toL (nth l 2)) b : Nat)) ∨ ((∀ b n, ¬ Vol l b n) ∧ q = 0)
theorem rm_p {l : List ByteArray} {e : Ending} (h : RoomIs l e) : ∃ q, e = .returned (.int .i64 q) ∧ RmP l q := by
  rcases h with ⟨b, n, hv, rfl⟩ | ⟨hn, rfl⟩
  · exact ⟨_, rfl, .inl ⟨b, n, hv, rfl⟩⟩
  · exact ⟨_, rfl, .inr ⟨hn, rfl⟩⟩
theorem RmP.uniq {l : List ByteArray} {k q : Int} (h : RmP l k) (h' : RmP l q) : q = k := by
  rcases h with ⟨b, n, hv, rfl⟩ | ⟨hn, rfl⟩ <;> rcases h' with ⟨b', n', hv', rfl⟩ | ⟨hn', rfl⟩
  · obtain ⟨rfl, rfl⟩ := hv.uniq hv'
    rfl
  · exact absurd hv (hn' _ _)
  · exact absurd hv' (hn _ _)
  · rfl
/-- what comes of taking -/
def TkP (l : List ByteArray) (n : Nat) (k q : Int) (L : List ByteArray) : Prop :=
  ((∀ b m, ¬ Vol l b m) ∧ n = 0 ∧ k = 0 ∧ q = 3 ∧ L = []) ∨ (∃ b m, Vol l b m ∧ Ful (toL (nth l 2)) (Gm.dat m) b ∧ n = 0 ∧ k = 0 ∧ q = 10 ∧ L = []) ∨
  (∃ b m i, Vol l b m ∧ Nxt (toL (nth l 2)) (Gm.dat m) b i ∧ n = b ∧ k = ((i : Nat) : Int) ∧ q = 0 ∧ L = takeL l i)
theorem take_p {l : List ByteArray} {B : Nat} {e : Ending} {w' : World} (h : TakeIs l B e w') : ∃ A n c k q L, e = .returned (.tuple #[.slice A n c, .int .i64 k, .int .i64 q]) ∧ Tz w' A n c L ∧ TkP l n k q L := by
  rcases h with ⟨hn, rfl⟩ | ⟨b, m, hv, hf, rfl⟩ | ⟨b, m, i, A', c', hv, hx, rfl, hr⟩
  · exact ⟨_, _, _, _, _, [], rfl, Tz.nil _, .inl ⟨hn, rfl, rfl, rfl, rfl⟩⟩
  · exact ⟨_, _, _, _, _, [], rfl, Tz.nil _, .inr (.inl ⟨b, m, hv, hf, rfl, rfl, rfl, rfl⟩)⟩
  · exact ⟨_, _, _, _, _, _, rfl, Tz.of hr (by have := hv.lt; omega), .inr (.inr ⟨b, m, i, hv, hx, rfl, rfl, rfl, rfl⟩)⟩
theorem TkP.uniq {l : List ByteArray} {n n' : Nat} {k k' q q' : Int} {L L' : List ByteArray} (h : TkP l n k q L) (h' : TkP l n' k' q' L') : n' = n ∧ k' = k ∧ q' = q ∧ L' = L := by
  rcases h with ⟨hn, rfl, rfl, rfl, rfl⟩ | ⟨b, m, hv, hf, rfl, rfl, rfl, rfl⟩ | ⟨b, m, i, hv, hx, rfl, rfl, rfl, rfl⟩ <;>
    rcases h' with ⟨hn', rfl, rfl, rfl, rfl⟩ | ⟨b', m', hv', hf', rfl, rfl, rfl, rfl⟩ | ⟨b', m', i', hv', hx', rfl, rfl, rfl, rfl⟩
  · exact ⟨rfl, rfl, rfl, rfl⟩
  · exact absurd hv' (hn _ _)
  · exact absurd hv' (hn _ _)
  · exact absurd hv (hn' _ _)
  · exact ⟨rfl, rfl, rfl, rfl⟩
  · obtain ⟨rfl, rfl⟩ := hv.uniq hv'
    exact (hx'.not hf).elim
  · exact absurd hv (hn' _ _)
  · obtain ⟨rfl, rfl⟩ := hv.uniq hv'
    exact (hx.not hf').elim
  · obtain ⟨rfl, rfl⟩ := hv.uniq hv'
    obtain rfl := hx.uniq hx'
    exact ⟨rfl, rfl, rfl, rfl⟩
/-- what comes of giving back -/
def GvP (l : List ByteArray) (i : Int) (n : Nat) (q : Int) (L : List ByteArray) : Prop :=
  ((∀ b m, ¬ Vol l b m) ∧ n = 0 ∧ q = 3 ∧ L = []) ∨
  (∃ b m, Vol l b m ∧ (i < ((Gm.dat m : Nat) : Int) ∨ (b : Int) ≤ i) ∧ n = 0 ∧ q = 2 ∧ L = []) ∨
  (∃ b m k, Vol l b m ∧ i = ((k : Nat) : Int) ∧ Gm.dat m ≤ k ∧ k < b ∧ Gm.bit (toL (nth l 2)) k = false ∧ n = 0 ∧ q = 9 ∧ L = []) ∨
  (∃ b m k, Vol l b m ∧ i = ((k : Nat) : Int) ∧ Gm.dat m ≤ k ∧ k < b ∧ Gm.bit (toL (nth l 2)) k = true ∧ n = b ∧ q = 0 ∧ L = l.set 2 (turnT (nth l 2) k))
theorem give_p {l : List ByteArray} {i : Int} {B : Nat} {e : Ending} {w' : World} (h : GiveIs l i B e w') : ∃ A n c q L, e = .returned (.tuple #[.slice A n c, .int .i64 q]) ∧ Tz w' A n c L ∧ GvP l i n q L := by
  rcases h with ⟨hn, rfl⟩ | ⟨b, m, hv, hf, rfl⟩ | ⟨b, m, k, hv, hi, h1, h2, h3, rfl⟩ | ⟨b, m, k, A', c', hv, hi, h1, h2, h3, rfl, hr⟩
  · exact ⟨_, _, _, _, [], rfl, Tz.nil _, .inl ⟨hn, rfl, rfl, rfl⟩⟩
  · exact ⟨_, _, _, _, [], rfl, Tz.nil _, .inr (.inl ⟨b, m, hv, hf, rfl, rfl, rfl⟩)⟩
  · exact ⟨_, _, _, _, [], rfl, Tz.nil _, .inr (.inr (.inl ⟨b, m, k, hv, hi, h1, h2, h3, rfl, rfl, rfl⟩))⟩
  · exact ⟨_, _, _, _, _, rfl, Tz.of hr (by have := hv.lt; omega), .inr (.inr (.inr ⟨b, m, k, hv, hi, h1, h2, h3, rfl, rfl, rfl⟩))⟩
theorem GvP.uniq {l : List ByteArray} {i : Int} {n n' : Nat} {q q' : Int} {L L' : List ByteArray} (h : GvP l i n q L) (h' : GvP l i n' q' L') : n' = n ∧ q' = q ∧ L' = L := by
  rcases h with ⟨hn, rfl, rfl, rfl⟩ | ⟨b, m, hv, hf, rfl, rfl, rfl⟩ | ⟨b, m, k, hv, hi, h1, h2, h3, rfl, rfl, rfl⟩ | ⟨b, m, k, hv, hi, h1, h2, h3, rfl, rfl, rfl⟩ <;>
    rcases h' with ⟨hn', rfl, rfl, rfl⟩ | ⟨b', m', hv', hf', rfl, rfl, rfl⟩ | ⟨b', m', k', hv', hi', h1', h2', h3', rfl, rfl, rfl⟩ | ⟨b', m', k', hv', hi', h1', h2', h3', rfl, rfl, rfl⟩
  all_goals first
    | exact ⟨rfl, rfl, rfl⟩
    | exact absurd hv' (hn _ _)
    | exact absurd hv (hn' _ _)
    | (obtain ⟨rfl, rfl⟩ := hv.uniq hv'
       first
         | (obtain rfl : k = k' := by omega
            first
              | exact ⟨rfl, rfl, rfl⟩
              | (rw [h3] at h3'; exact nomatch h3'))
         | omega)
set_option maxHeartbeats 4000000 in
theorem reads_any (A : Option Addr) (m c : Nat) (l : List ByteArray) (i : Int) (w : World) (hl : Tz w A m c l) (hL : Lit l m) :
    Calls Tryd.prog 4 #[.slice A m c, .int .i64 i] w fun e w' => e = .returned (.bool true) ∧ Below w.heap.size w w' := by
  have hsame : ∀ n A c A' c' L w, Tz w A n c L → Tz w A' n c' L → Calls Tryd.prog 12 #[.slice A n c, .slice A' n c'] w fun e w' => e = .returned (.bool true) ∧ Dr w w' := fun n A c A' c' L w hl hl' => by
    have := same_any A A' n c n c' L L w hl.t hl'.t (by have := hl.m; omega) (by have := hl.m; omega)
    rw [decide_eq_true rfl] at this
    exact this
  go_enter Tryd.func4, Tryd.ntmps4
  go_wp2_with fail
  refine (alive_any _).mono ?_
  rintro e w1 ⟨rfl, hb1⟩
  go_wp2_with fail
  refine (great_any A m c l w1 (hl.below hb1) hL).mono ?_
  rintro e w1 ⟨hg, rfl⟩
  rcases hg with rfl | rfl
  · go_wp2_with fail
    go_ret
    exact ⟨rfl, hb1⟩
  go_wp2_with fail
  refine (of_any A m c l _ (hl.below hb1) hL).mono ?_
  rintro e w2 ⟨ho, hx2⟩
  obtain ⟨cs, K, rfl, hof⟩ := of_p ho
  have hb2 := hb1.trans (hx2.mono hb1.size)
  have hb2' := hb2.trans ((grow w2 (Obj.cells gz 24)).mono hb2.size)
  have og := Nm.Own.new w2 24 gz
  have h1 := hof.one
  have hq := hof.eq
  clear ho hx2 hb1
  go_wp2_with (refine sto24 (cs := cs) rfl rfl rfl rfl og h1 gz_one ?_)
  intro w5 o5 s5
  have hb5 := s5.below hb2' hb2.size
  clear hb2 hb2' og s5
  generalize w2.heap.size = g at *
  go_wp2_with fail
  refine (rof_any A m c l _ (hl.below hb5) hL).mono ?_
  rintro e w6 ⟨ho, hx6⟩
  obtain ⟨ds, K', rfl, hof'⟩ := of_p ho
  obtain ⟨rfl, rfl⟩ := hof.uniq hof'
  have hb6 := hb5.trans (hx6.mono hb5.size)
  have hb6' := hb6.trans ((grow w6 (Obj.cells gz 24)).mono hb6.size)
  have o6 := (o5.below hx6).below (grow w6 (Obj.cells gz 24))
  have hgh : g < w6.heap.size := (o5.below hx6).lt
  have og := Nm.Own.new w6 24 gz
  clear ho hof hof' hx6
  go_wp2_with (refine sto24 (cs := ds) rfl rfl rfl rfl og h1 gz_one ?_)
  intro w7 p7 s7
  have hb7 := s7.below hb6' hb6.size
  have o7 := s7.own o6 (by omega)
  clear hb6 hb6' og s7 o6 hb5 o5
  generalize w6.heap.size = h at *
  have t2 : (K' != K') = false := by simp
  go_wp2_with (first | (refine ld24 rfl rfl rfl o7 h1 ?_) | (refine ld24 rfl rfl rfl p7 h1 ?_) | (refine ne24 (by rfl) rfl rfl rfl hq ?_))
  refine (used_any A m c l i _ (hl.below hb7) hL).mono ?_
  rintro e w8 ⟨⟨r, rfl, hr⟩, hx8⟩
  have hb8 := hb7.trans (hx8.mono hb7.size)
  clear o7 p7 hb7 hx8 h1 hq
  have HR := Lib.hid hr
  clear hr
  go_wp2_with fail
  refine (rused_any A m c l i _ (hl.below hb8) hL).mono ?_
  rintro e w9 ⟨⟨r', rfl, hr'⟩, hx9⟩
  obtain rfl := Says.uniq HR.out hr'
  have hb9 := hb8.trans (hx9.mono hb8.size)
  clear hb8 hx9 hr' HR
  have t3 : (r' != r') = false := by simp
  go_wp2_with fail
  refine (room_any A m c l _ (hl.below hb9) hL).mono ?_
  rintro e w10 ⟨ho, hx10⟩
  obtain ⟨q, rfl, hq⟩ := rm_p ho
  have hb10 := hb9.trans (hx10.mono hb9.size)
  clear ho hb9 hx10
  go_wp2_with fail
  refine (rroom_any A m c l _ (hl.below hb10) hL).mono ?_
  rintro e w11 ⟨ho, hx11⟩
  obtain ⟨q', rfl, hq'⟩ := rm_p ho
  obtain rfl := hq.uniq hq'
  have hb11 := hb10.trans (hx11.mono hb10.size)
  clear ho hb10 hx11 hq hq'
  have t4 : (q' != q') = false := by simp
  go_wp2_with fail
  refine (take_any A m c l _ (hl.below hb11) hL).mono ?_
  rintro e w12 ⟨ho, hx12⟩
  obtain ⟨A1, n1, c1, k1, e1, L1, rfl, z1, P1⟩ := take_p ho
  have hb12 := hb11.trans (hx12.mono hb11.size)
  clear ho hb11 hx12
  go_wp2_with fail
  refine (rtake_any A m c l _ (hl.below hb12) hL).mono ?_
  rintro e w13 ⟨ho, hx13⟩
  obtain ⟨A2, n2, c2, k2, e2, L2, rfl, z2, P2⟩ := take_p ho
  obtain ⟨rfl, rfl, rfl, rfl⟩ := P1.uniq P2
  have hb13 := hb12.trans (hx13.mono hb12.size)
  have z1 := z1.below hx13
  clear ho hb12 hx13 P1 P2
  go_wp2_with fail
  refine (give_any A m c l i _ (hl.below hb13) hL).mono ?_
  rintro e w14 ⟨ho, hx14⟩
  obtain ⟨A3, n3, c3, e3, L3, rfl, z3, P3⟩ := give_p ho
  have hb14 := hb13.trans (hx14.mono hb13.size)
  have z1 := z1.below hx14
  have z2 := z2.below hx14
  clear ho hb13 hx14
  go_wp2_with fail
  refine (rgive_any A m c l i _ (hl.below hb14) hL).mono ?_
  rintro e w15 ⟨ho, hx15⟩
  obtain ⟨A4, n4, c4, e4, L4, rfl, z4, P4⟩ := give_p ho
  obtain ⟨rfl, rfl, rfl⟩ := P3.uniq P4
  have hb15 := hb14.trans (hx15.mono hb14.size)
  have z1 := z1.below hx15
  have z2 := z2.below hx15
  have z3 := z3.below hx15
  clear ho hb14 hx15 P3 P4
  go_wp2_with fail
  refine (hsame _ _ _ _ _ _ _ z1 z2).mono ?_
  rintro e w16 ⟨rfl, hd⟩
  have z3 := z3.dr hd
  have z4 := z4.dr hd
  have hb16 := below_dr hb15 hd
  clear z1 z2 hb15 hd
  go_wp2_with fail
  refine (hsame _ _ _ _ _ _ _ z3 z4).mono ?_
  rintro e w17 ⟨rfl, hd⟩
  have hb17 := below_dr hb16 hd
  go_wp2_with fail
  go_ret
  exact ⟨rfl, hb17⟩
end Dw
end Go.Proofs.YtjfehloohpnmpaaDoor
