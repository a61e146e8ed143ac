/-
  THE WALKS of the document's first three parts, and of its Join.
-/
import Derived.Test.YtgfnpemonpebpaaJl
namespace Go.Proofs.Ytgfnpemonpebpaa
open Go.RowKit
set_option linter.unusedVariables false
set_option linter.unusedSimpArgs false
theorem met_snoc (acc : List (Int × ByteArray)) (p : Int × ByteArray) (I : Int) : met (acc ++ [p]) I = (met acc I || (p.1 == I)) := by simp [met]
theorem has_any (A : Option Addr) (m cap : Nat) (l : List (Int × ByteArray)) (I : Int) (w : World) (hm : l.length = m) (hmx : m ≤ 100000) (hl : Ps w A l) :
    Calls Try.prog 33 #[.slice A m cap, .int .i64 I] w fun e w' => e = .returned (.bool (met l I)) ∧ Dr w w' := by
  have HL := Lib.hid (And.intro hl hm)
  clear hl hm
  go_enter Try.func33, Try.ntmps33
  go_wp2_with fail
  go_loopw [5] (fun i wr => ∃ k : Nat, k ≤ m ∧ i = .int .i64 (k : Int) ∧ met (l.take k) I = false ∧ Dr w wr) (fun i _ => m - (intOf i).toNat)
  case atStart => exact ⟨0, by omega, rfl, rfl, Dr.refl _⟩
  case round =>
    obtain ⟨k, hk, rfl, hf, hd⟩ := hrel
    by_cases hkm : k < m
    · have k0 : (k : Int) < (m : Int) := by omega
      have ek : IntKind.i64.wrap ((k : Int) + 1) = (k : Int) + 1 := IntWalk.i64_in _ (by omega)
      have hlen := HL.out.2
      obtain ⟨b, o, rfl, hp⟩ := HL.out.1 (by omega)
      obtain ⟨p, hpk⟩ : ∃ p, l[k]? = some p := ⟨l[k]'(by omega), List.getElem?_eq_getElem _⟩
      have c1 := (hd.cell _).trans (hp k p hpk).1
      have tk1 : l.take (k + 1) = l.take k ++ [p] := by
        rw [List.take_add_one, hpk]; rfl
      have hall : p.1 = I → met l I = true := fun e => (met_iff _ _).2 ⟨p, List.mem_of_getElem? hpk, e⟩
      by_cases he : p.1 = I
      · have t1 : (p.1 == I) = true := by rw [beq_iff_eq]; exact he
        have HA := Lib.hid (hall he)
        clear hall he hpk tk1 hp hlen
        go_wp2_with fail
        go_ret
        exact ⟨by rw [HA.out]; rfl, hd⟩
      · have t1 : (p.1 == I) = false := by rw [beq_eq_false_iff_ne]; exact he
        have HF : Hid (met (l.take (k + 1)) I = false) := Lib.hid (by rw [tk1, met_snoc, hf, t1]; rfl)
        clear hall he hpk tk1 hp hlen
        go_wp2_with fail
        go_roundw
        case rel => exact ⟨k + 1, by omega, by go_num, HF.out, hd⟩
        case measure => first | (simp [intOf]; done) | (simp [intOf]; omega)
    · obtain rfl : k = m := by omega
      have HF : Hid (met l I = false) := Lib.hid (by rw [← hf, List.take_of_length_le (Nat.le_of_eq HL.out.2)])
      go_wp2_with fail
      go_ret
      exact ⟨by rw [HF.out]; rfl, hd⟩
theorem RP.ps {w : World} {B g : Nat} {n cap : Nat} {l : List (Int × ByteArray)} (h : RP w B (some ⟨g, 0, none⟩) n cap l) : Ps w (some ⟨g, 0, none⟩) l := fun _ => ⟨g, 0, rfl, h.pl⟩
theorem RP.dr {w w' : World} {B : Nat} {A : Option Addr} {n cap : Nat} {l : List (Int × ByteArray)} (h : RP w B A n cap l) (hd : Dr w w') : RP w' B A n cap l := h.below hd.below
set_option maxRecDepth 100000 in
set_option maxHeartbeats 2000000 in
theorem three_any (A : Option Addr) (m cap n : Nat) (l : List (Int × ByteArray)) (w : World) (hm : l.length = m) (hmx : m ≤ 100000) (hl : Ps w A l) :
    Calls Try.prog 23 #[.slice A m cap, .int .i64 (n : Int)] w fun e w' => ∃ g c, e = .returned (.tuple #[.slice (some ⟨g, 0, none⟩) (pick n [] l).1.length c, .int .i64 ((pick n [] l).2 : Nat)]) ∧ RP w' w.heap.size (some ⟨g, 0, none⟩) (pick n [] l).1.length c (pick n [] l).1 ∧ Below w.heap.size w w' := by
  generalize hR : pick n [] l = R at *
  have oP : RP (w.alloc (Obj.cells #[] 29)) w.heap.size (some ⟨w.heap.size, 0, none⟩) 0 0 [] := ⟨rfl, World.ownsRow_made w #[] 0 (Nat.le_refl _) (by decide) rfl⟩
  have bW := (Below.refl w.heap.size w).alloc (Nat.le_refl _) (Obj.cells #[] 29)
  have hr0 : pick n [] (l.drop 0) = R := by rw [List.drop_zero]; exact hR
  have HL := Lib.hid (And.intro hl hm)
  clear hR hl hm
  go_enter Try.func23, Try.ntmps23
  go_wp2_with fail
  generalize w.alloc (Obj.cells #[] 29) = w0 at *
  generalize hG : w.heap.size = G at *
  have HG := Lib.hid hG
  clear hG
  go_loopw [6, 7] (fun o i wr => ∃ (k : Nat) (acc : List (Int × ByteArray)) (g c : Nat), k ≤ m ∧ i = .int .i64 (k : Int) ∧ o = .slice (some ⟨g, 0, none⟩) acc.length c ∧ acc.length ≤ 3 ∧ pick n acc (l.drop k) = R ∧ RP wr G (some ⟨g, 0, none⟩) acc.length c acc ∧ Below G w wr) (fun _ i _ => m - (intOf i).toNat)
  case atStart => exact ⟨0, [], _, _, by omega, rfl, rfl, by simp, hr0, oP, bW⟩
  case round =>
    clear oP bW hr0
    obtain ⟨k, acc, g, c, hk, rfl, rfl, ha3, hr, oP, bW⟩ := hrel
    by_cases hkm : k < m
    · have k0 : (k : Int) < (m : Int) := by omega
      by_cases h3 : acc.length = 3
      · have q3 : ¬ ((acc.length : Int) < 3) := by omega
        have hR2 : R = (acc, 0) := by
          rw [← hr]
          have hk' : k < l.length := by rw [HL.out.2]; exact hkm
          rw [List.drop_eq_getElem_cons hk', pick, if_pos h3]
        subst hR2
        clear h3 hr
        go_wp2_with fail
        go_ret2
        exact ⟨g, c, rfl, by rw [HG.out]; exact oP, by rw [HG.out]; exact bW⟩
      · have q3 : (acc.length : Int) < 3 := by omega
        have ek : IntKind.i64.wrap ((k : Int) + 1) = (k : Int) + 1 := IntWalk.i64_in _ (by omega)
        have hlen := HL.out.2
        obtain ⟨b, o, rfl, hp⟩ := HL.out.1 (by omega)
        obtain ⟨p, hpk⟩ : ∃ p, l[k]? = some p := ⟨l[k]'(by omega), List.getElem?_eq_getElem _⟩
        have hb : b < w.heap.size := World.block_lt_of_cell? w _ (hp k p hpk).1
        obtain ⟨c1, c2⟩ := (hp.belowB bW (by have := HG.out; omega)) k p hpk
        have dr : l.drop k = p :: l.drop (k + 1) := by
          have hk' : k < l.length := by omega
          rw [List.drop_eq_getElem_cons hk']
          rw [List.getElem?_eq_getElem hk'] at hpk
          rw [Option.some.inj hpk]
        rw [dr, pick, if_neg h3] at hr
        obtain ⟨I, S⟩ := p
        simp only at c1 c2 hr
        have hsz := bW.size
        have hh := has_any (some ⟨g, 0, none⟩) acc.length c acc I wr rfl (by omega) oP.ps
        clear hpk dr hp hlen h3
        by_cases hI1 : I < 1
        · rw [if_pos (Or.inl hI1)] at hr
          subst hr
          go_wp2_with fail
          go_ret2
          exact ⟨g, c, rfl, by rw [HG.out]; exact oP, by rw [HG.out]; exact bW⟩
        · by_cases hI5 : 5 < I
          · rw [if_pos (Or.inr hI5)] at hr
            subst hr
            go_wp2_with fail
            go_ret2
            exact ⟨g, c, rfl, by rw [HG.out]; exact oP, by rw [HG.out]; exact bW⟩
          · rw [if_neg (by omega)] at hr
            by_cases hme : met acc I = true
            · rw [if_pos hme] at hr
              rw [hme] at hh
              clear hme
              go_wp2_with (go_at_call 33; refine hh.mono ?_; rintro e w3 ⟨rfl, hd⟩)
              go_roundw
              case rel => exact ⟨k + 1, acc, g, c, by omega, by go_num, rfl, ha3, hr, oP.dr hd, below_dr bW hd⟩
              case measure => first | (simp [intOf]; done) | (simp [intOf]; omega)
            · rw [if_neg hme] at hr
              rw [Bool.not_eq_true] at hme
              rw [hme] at hh
              clear hme
              by_cases hS : S.size = n
              · rw [if_neg (by rw [hS]; simp)] at hr
                have t1 : ((S.size : Int) != (n : Int)) = false := by rw [hS]; simp
                clear hS
                go_wp2_with (first | (go_at_call 33; refine hh.mono ?_; rintro e w3 ⟨rfl, hd⟩; have d1 := (hd.cell _).trans c1; have d2 := (hd.cell _).trans c2; have oP3 := oP.dr hd; have bW3 := below_dr bW hd; have cc := cell_two_new w3 (.int .i64 I) (.string S) 29; have cc1 := cc 0 _ rfl; have cc2 := cc 1 _ rfl; have kA : Below w3.heap.size w3 (w3.alloc (Obj.cells #[.int .i64 I, .string S] 29)) := (Below.refl _ w3).alloc (Nat.le_refl _) _) | (at_builtin; refine app_part rfl _ _ rfl G _ acc.length c acc rfl (oP3.below kA) w3.heap.size 1 (I, S) rfl cc1 cc2 (by omega) ?c3 (w3.heap.size + 1) ?c4 ?_; go_must (case c3 => (have := HG.out; have := bW3.size; simp; omega)); go_must (case c4 => simp); intro g5 c5 w8 r8 b8))
                have e5 : acc.length + 1 = (acc ++ [(I, S)]).length := by simp
                go_roundw
                case rel => exact ⟨k + 1, acc ++ [(I, S)], g5, c5, by omega, by go_num, by rw [← e5], by rw [← e5]; omega, hr, by rw [← e5]; exact r8, (bW3.trans (kA.mono (by have := HG.out; have := bW3.size; omega))).trans b8⟩
                case measure => first | (simp [intOf]; done) | (simp [intOf]; omega)
              · rw [if_pos hS] at hr
                have t1 : ((S.size : Int) != (n : Int)) = true := by rw [bne_iff_ne]; omega
                clear hS
                subst hr
                go_wp2_with (go_at_call 33; refine hh.mono ?_; rintro e w3 ⟨rfl, hd⟩; have d2 := (hd.cell _).trans c2; have d1 := (hd.cell _).trans c1)
                go_ret2
                exact ⟨g, c, rfl, by rw [HG.out]; exact oP.dr hd, by rw [HG.out]; exact below_dr bW hd⟩
    · obtain rfl : k = m := by omega
      rw [List.drop_eq_nil_of_le (by rw [HL.out.2]; omega), pick] at hr
      subst hr
      by_cases h3 : acc.length < 3
      · have q4 : (acc.length : Int) < 3 := by omega
        simp only [if_pos h3]
        clear h3
        go_wp2_with fail
        go_ret2
        exact ⟨g, c, rfl, by rw [HG.out]; exact oP, by rw [HG.out]; exact bW⟩
      · have q4 : ¬ (acc.length : Int) < 3 := by omega
        simp only [if_neg h3]
        clear h3
        go_wp2_with fail
        go_ret2
        exact ⟨g, c, rfl, by rw [HG.out]; exact oP, by rw [HG.out]; exact bW⟩
end Go.Proofs.Ytgfnpemonpebpaa
