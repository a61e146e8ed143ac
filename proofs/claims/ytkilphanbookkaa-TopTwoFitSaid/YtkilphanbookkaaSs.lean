/-
  THE WALKS of the code's and of the document's Split, and of what holds shares against each other.
-/
import Derived.Test.YtkilphanbookkaaSp
namespace Go.Proofs.Ytkilphanbookkaa
open Go.RowKit
set_option linter.unusedVariables false
set_option linter.unusedSimpArgs false
/-- the slice reads as these shares -/
def Ss (w : World) (A : Option Addr) (n : Nat) (l : List (List Nat)) : Prop :=
  l.length = n ∧ (∀ s ∈ l, s.length = 33 ∧ Gf.Bytes s) ∧ (0 < n → ∃ b o, A = some ⟨b, o, none⟩ ∧ Rg w b o l.flatten)
theorem flat_length : ∀ l : List (List Nat), (∀ s ∈ l, s.length = 33) → l.flatten.length = l.length * 33
  | [], _ => rfl
  | s :: l, h => by
    rw [List.flatten_cons, List.length_append, h s (by simp), flat_length l (fun x hx => h x (by simp [hx])), List.length_cons]
    omega
def nthL (l : List (List Nat)) (i : Nat) : List Nat := l[i]?.getD []
theorem nthL_get {l : List (List Nat)} {i : Nat} (h : i < l.length) : l[i]? = some (nthL l i) := by simp [nthL, h]
theorem nthL_mem {l : List (List Nat)} {i : Nat} (h : i < l.length) : nthL l i ∈ l := by simp [nthL, h]
theorem flat_split (l : List (List Nat)) (i : Nat) (h : i < l.length) : l.flatten = (l.take i).flatten ++ (nthL l i ++ (l.drop (i + 1)).flatten) := by
  have e := List.take_append_drop i l
  have d : l.drop i = nthL l i :: l.drop (i + 1) := by
    rw [List.drop_eq_getElem_cons h]
    simp [nthL, h]
  conv => lhs; rw [← e, List.flatten_append, d, List.flatten_cons]
theorem Ss.len {w : World} {A : Option Addr} {n : Nat} {l : List (List Nat)} (h : Ss w A n l) {i : Nat} (hi : i < n) : (nthL l i).length = 33 := (h.2.1 _ (nthL_mem (by rw [h.1]; exact hi))).1
theorem Ss.byt {w : World} {A : Option Addr} {n : Nat} {l : List (List Nat)} (h : Ss w A n l) {i : Nat} (hi : i < n) : Gf.Bytes (nthL l i) := (h.2.1 _ (nthL_mem (by rw [h.1]; exact hi))).2
theorem rg_at {w : World} {b o n : Nat} {l : List (List Nat)} (h33 : ∀ s ∈ l, s.length = 33) (hr : Rg w b o l.flatten) {i : Nat} (hi : i < l.length) : Rg w b (o + i * 33) (nthL l i) := by
  rw [flat_split l i hi] at hr
  have h := hr.right.left
  rw [flat_length _ (fun s hs => h33 s (List.mem_of_mem_take hs)), List.length_take, Nat.min_eq_left (by omega)] at h
  exact h
theorem Ss.below {w w' : World} {A : Option Addr} {n : Nat} {l : List (List Nat)} (h : Ss w A n l) (hb : Below w.heap.size w w') : Ss w' A n l :=
  ⟨h.1, h.2.1, fun h0 => by
    obtain ⟨b, o, rfl, hr⟩ := h.2.2 h0
    exact ⟨b, o, rfl, hr.below hb⟩⟩
theorem Ss.dr {w w' : World} {A : Option Addr} {n : Nat} {l : List (List Nat)} (h : Ss w A n l) (hd : Dr w w') : Ss w' A n l := h.below hd.below
theorem Ss.drew {w : World} {A : Option Addr} {n : Nat} {l : List (List Nat)} (h : Ss w A n l) : Ss w.drew A n l := h
theorem Ss.alloc {w : World} {A : Option Addr} {n : Nat} {l : List (List Nat)} (h : Ss w A n l) (o : Obj) : Ss (w.alloc o) A n l := h.below ((Below.refl _ _).alloc (Nat.le_refl _) o)
/-- what Split hands back -/
def SplitIs (l : List (List Nat)) (n : Nat) (e : Ending) (w : World) : Prop := ∃ A cap, e = .returned (.tuple #[.slice A n cap, .int .i64 0]) ∧ Ss w A n l ∧ n ≤ cap
theorem shrs_33 (K M : List Nat) (n : Nat) : ∀ s ∈ Sx.shrs K M n, s.length = 33 := fun s hs => by
  obtain ⟨i, _, rfl⟩ := List.mem_map.1 hs
  exact Sx.shr_length _ _ _
theorem shrs_all {K M : List Nat} (hK : Gf.Bytes K) (hM : Gf.Bytes M) (n : Nat) (hn : n ≤ 255) : ∀ s ∈ Sx.shrs K M n, s.length = 33 ∧ Gf.Bytes s := fun s hs => by
  obtain ⟨i, hi, rfl⟩ := List.mem_map.1 hs
  have : i < n := by simpa using hi
  exact ⟨Sx.shr_length _ _ _, Sx.shr_bytes hK hM (by omega)⟩
theorem spl_shrs (K M : List Nat) (n k : Nat) (hk : k < n) : spl ((Sx.shrs K M k).flatten ++ zs ((n - k) * 33)) (k * 33) (Sx.shr K M (k + 1)) = (Sx.shrs K M (k + 1)).flatten ++ zs ((n - (k + 1)) * 33) := by
  have hl : (Sx.shrs K M k).flatten.length = k * 33 := by rw [flat_length _ (shrs_33 K M k), Sx.shrs_length]
  unfold spl
  rw [List.take_left' hl, Sx.shr_length, Sx.shrs_succ, List.flatten_append, List.drop_append, List.drop_of_length_le (by omega), hl, List.nil_append]
  have e : k * 33 + 33 - k * 33 = 33 := by omega
  rw [e]
  have ez : (zs ((n - k) * 33)).drop 33 = zs ((n - (k + 1)) * 33) := by
    unfold zs
    rw [List.drop_replicate]
    congr 1
    omega
  rw [ez]
  simp
set_option maxRecDepth 100000 in
set_option maxHeartbeats 2000000 in
theorem ssplit_bad (K : List Nat) (N : ByteArray) (n : Int) (lN : N.size ≤ maxLen) (hbad : n < 3 ∨ 255 < n ∨ N.size ≠ 64) (w : World) :
    Calls Try.prog 5 #[.agg (vs K), .int .i64 n, .string N] w fun e w' => e = .returned (.tuple #[.slice none 0 0, .int .i64 1]) ∧ Below w.heap.size w w' := by
  unfold maxLen at lN
  have bW := (Below.refl w.heap.size w).alloc (Nat.le_refl _) (Obj.cells (vs K) 23)
  rcases (by omega : n < 3 ∨ (¬ n < 3 ∧ 255 < n) ∨ (¬ n < 3 ∧ ¬ 255 < n ∧ N.size ≠ 64)) with h1 | ⟨h1, h2⟩ | ⟨h1, h2, h3⟩
  · go_enter Try.func5, Try.ntmps5
    go_wp2_with fail
    go_ret2
    exact ⟨rfl, bW⟩
  · go_enter Try.func5, Try.ntmps5
    go_wp2_with fail
    go_ret2
    exact ⟨rfl, bW⟩
  · have h4 : ((N.size : Int) != 64) = true := by rw [bne_iff_ne]; omega
    clear h3
    go_enter Try.func5, Try.ntmps5
    go_wp2_with fail
    go_ret2
    exact ⟨rfl, bW⟩
set_option maxRecDepth 100000 in
set_option maxHeartbeats 2000000 in
theorem ssplit_ok (K : List Nat) (N : ByteArray) (n : Nat) (hK : Gf.Bytes K) (lK : K.length = 32) (lN : N.size = 64) (h3 : 3 ≤ n) (h255 : n ≤ 255) (w : World) :
    Calls Try.prog 5 #[.agg (vs K), .int .i64 (n : Int), .string N] w fun e w' => SplitIs (Sx.shrs K (toN N) n) n e w' ∧ Below w.heap.size w w' := by
  have HK := Lib.hid (And.intro hK lK)
  have d1 : decide ((n : Int) < 3) = false := by rw [decide_eq_false_iff_not]; omega
  have d2 : decide ((255 : Int) < (n : Int)) = false := by rw [decide_eq_false_iff_not]; omega
  have d3 : ((N.size : Int) != 64) = false := by rw [bne_eq_false_iff_eq]; omega
  have HN := Lib.hid lN
  have hmk := fun w => mk25 n (by omega) w
  clear hK lK lN
  have z1 : (w.alloc (Obj.cells (vs K) 23)).heap.size = w.heap.size + 1 := Array.size_push ..
  have o0 := (Own.new w 23 (vs K)).alloc (Obj.cells (vs (zs (n * 33))) 31)
  have o1 := Own.new' (w.alloc (Obj.cells (vs K) 23)) 31 (vs (zs (n * 33))) z1.symm
  have bW := ((Below.refl w.heap.size w).alloc (Nat.le_refl _) (Obj.cells (vs K) 23)).alloc (by omega) (Obj.cells (vs (zs (n * 33))) 31)
  have HZ := Lib.hid z1
  clear z1
  go_enter Try.func5, Try.ntmps5
  go_wp2_with fail
  generalize hw3 : (w.alloc (Obj.cells (vs K) 23)).alloc (Obj.cells (vs (zs (n * 33))) 31) = w3 at *
  have HW3 := Lib.hid hw3
  clear hw3 HZ hmk
  generalize hg : w.heap.size = g at *
  have HG := Lib.hid hg
  clear hg
  go_loopw [25] (fun i wr => ∃ k : Nat, k ≤ n ∧ i = .int .i64 k ∧ Own wr (g + 1) 31 (vs ((Sx.shrs K (toN N) k).flatten ++ zs ((n - k) * 33))) ∧ Below (g + 1) w3 wr) (fun i _ => n - (intOf i).toNat)
  case atStart => exact ⟨0, by omega, rfl, o1, Below.refl _ _⟩
  case round =>
    obtain ⟨k, hk, rfl, oS, hb⟩ := hrel
    generalize wr = wo at *
    have r0 := (o0.belowB hb (by omega)).rg
    by_cases hlt : k < n
    · have i0 : (k : Int) < (n : Int) := by omega
      have e1 : IntKind.i64.wrap ((k : Int) + 1) = (k : Int) + 1 := IntWalk.i64_in _ (by omega)
      have e2 : IntKind.u8.wrap ((k : Int) + 1) = ((k + 1 : Nat) : Int) := by rw [IntKind.wrap_u8]; omega
      go_wp2_with (refine ld t23 rfl rfl rfl r0 HK.out.2 ?_)
      refine (sat_any K N (k + 1) HK.out.1 HK.out.2 HN.out (by omega) _).mono ?_
      rintro e w4 ⟨rfl, hb4⟩
      have oS4 := oS.below hb4
      clear e1 e2
      have hL : k * 33 + 33 ≤ ((Sx.shrs K (toN N) k).flatten ++ zs ((n - k) * 33)).length := by
        rw [List.length_append, flat_length _ (shrs_33 _ _ _), Sx.shrs_length, zs_length]; omega
      generalize hLL : (Sx.shrs K (toN N) k).flatten ++ zs ((n - k) * 33) = L at *
      have HLL := Lib.hid hLL
      clear hLL
      have hl := Sx.shr_length K (toN N) (k + 1)
      generalize hS : Sx.shr K (toN N) (k + 1) = S at *
      have HS := Lib.hid hS
      clear hS
      go_wp2_with (refine sto_mid t34 rfl rfl rfl rfl oS4 hL hl ?_)
      have oN := setCells_own S L (k * 33) w4 oS4 (by rw [hl]; exact hL)
      rw [show spl L (k * 33) S = (Sx.shrs K (toN N) (k + 1)).flatten ++ zs ((n - (k + 1)) * 33) from by rw [← HLL.out, ← HS.out]; exact spl_shrs _ _ _ _ hlt] at oN
      go_roundw
      case rel => exact ⟨k + 1, by omega, by go_num, oN, below_cells (Nat.le_refl _) _ _ _ (hb.trans (hb4.mono (by have := hb.size; have := o1.lt; omega)))⟩
      case measure => first | (simp [intOf]; done) | (simp [intOf]; omega)
    · obtain rfl : n = k := by omega
      rw [Nat.sub_self, Nat.zero_mul, show zs 0 = [] from rfl, List.append_nil] at oS
      have rS := oS.rg
      go_wp2_with fail
      go_ret2
      refine ⟨⟨_, _, rfl, ⟨Sx.shrs_length _ _ _, shrs_all HK.out.1 (toN_bytes N) _ h255, fun _ => ⟨_, _, rfl, rS⟩⟩, Nat.le_refl _⟩, ?_⟩
      rw [HG.out]
      exact bW.trans (hb.mono (by omega))
end Go.Proofs.Ytkilphanbookkaa
