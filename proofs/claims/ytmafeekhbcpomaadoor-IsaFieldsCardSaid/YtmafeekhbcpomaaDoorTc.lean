/-
  THE WALK of the code's Text, operation by operation.
-/
import Derived.Test.YtmafeekhbcpomaaDoorTa
namespace Go.Proofs.YtmafeekhbcpomaaDoor
open Go.RowKit
set_option linter.unusedVariables false
set_option maxRecDepth 100000 in
set_option maxHeartbeats 4000000 in
theorem text_c (x : Is.Ins) (hx : x.Ok) (w : World) (hT : Tab w) (he : (Is.enc x).2 = 0) (e1 : 1 ≤ x.op) (e2 : x.op ≤ 13) :
    Calls Tryd.prog 15 #[.agg (ic x)] w fun e w' => e = .returned (.string (st (txt x))) ∧ Below w.heap.size w w' := by
  obtain ⟨o, a, b, c, m⟩ := x
  simp only at e1 e2
  have HT : Hid (txt ⟨o, a, b, c, m⟩ = name o ++ 32 :: jn [rt a, rt b, rt c]) := Lib.hid (by unfold txt body; rw [if_neg (by rw [he]; simp), if_pos (show Is.hasC o from by unfold Is.hasC; omega)])
  have hen := enc_any ⟨o, a, b, c, m⟩ hx
  obtain ⟨ho, hr, hk⟩ := Is.enc_ok (x := ⟨o, a, b, c, m⟩) (w := (Is.enc ⟨o, a, b, c, m⟩).1) (by rw [← he])
  have hm : -1000000 < m ∧ m < 1000000 := by
    rcases hk with ⟨_, h, _⟩ | ⟨_, h, _⟩
    · simp only at h; omega
    · rcases h with ⟨_, _, _⟩ | ⟨_, _, _⟩ <;> simp only at * <;> omega
  have hrr := regs_le hr
  obtain ⟨ra, rb, rc, _⟩ := hrr
  simp only at ra rb rc
  obtain ⟨V, hV⟩ : ∃ V, V = w.alloc (Obj.cells (ic ⟨o, a, b, c, m⟩) 23) := ⟨_, rfl⟩
  have st0 : At V w.heap.size ⟨o, a, b, c, m⟩ := by rw [hV]; exact at_new _ _ _
  have bV : Below w.heap.size w V := by rw [hV]; exact grow _ _
  have TV := hT.below bV
  obtain ⟨k0, k1, k2, k3, k4⟩ := at_new w ⟨o, a, b, c, m⟩ 23
  have HV := Lib.hid hV
  rw [he] at hen
  obtain ⟨v, hv⟩ : ∃ v, v = (Is.enc ⟨o, a, b, c, m⟩).1 := ⟨_, rfl⟩
  rw [← hv] at hen
  clear hV hv he hk hr ho hx
  have o3 : o < 32 := by omega
  have hc2 := decide_eq_true (p := Is.hasC o) (by unfold Is.hasC; omega)
  have o1 : (o : Int) ≤ 31 := by omega
  go_enter Tryd.func15, Tryd.ntmps15
  go_wp2_with fail
  change Calls _ _ #[.agg (ic ⟨o, a, b, c, m⟩)] (w.alloc (Obj.cells (ic ⟨o, a, b, c, m⟩) 23)) _
  rw [← HV.out]
  clear k0 k1 k2 k3 k4
  refine (hen _).mono ?_
  rintro e w1 ⟨rfl, hb⟩
  replace st0 := st0.below hb
  replace TV := TV.below hb
  replace bV := bV.trans (hb.mono bV.size)
  clear hb HV
  obtain ⟨k0, k1, k2, k3, k4⟩ := id st0
  go_wp2_with fail
  refine (itoa_any m _ hm.1 hm.2 TV).mono ?_
  rintro e w2 ⟨rfl, hb⟩
  clear k0 k1 k2 k3 k4
  replace st0 := st0.below hb
  replace TV := TV.below hb
  replace bV := bV.trans (hb.mono bV.size)
  clear hb
  obtain ⟨k0, k1, k2, k3, k4⟩ := id st0
  have kn := TV.names o o3
  have ln := name_len o o3
  have la := rt_len a (by omega)
  have lb := rt_len b (by omega)
  have lc := rt_len c (by omega)
  have lm := itoa_len m hm.1 hm.2
  have lsm : (st (Lib.itoa m)).size ≤ 8 := by rw [st_size]; exact lm
  have lsb : (st (rt b)).size ≤ 4 := by rw [st_size]; exact lb
  go_wp2_with fail
  refine (hasC_any _ _).mono ?_
  rintro e w3 ⟨rfl, rfl⟩
  rw [hc2]
  go_wp2_with fail
  go_region_held3 (fun u => u.cell? ⟨w.heap.size, 1, none⟩ = some (.int .u8 (a : Nat)) ∧ u.cell? ⟨w.heap.size, 2, none⟩ = some (.int .u8 (b : Nat)) ∧ u.cell? ⟨w.heap.size, 3, none⟩ = some (.int .u8 (c : Nat))) (first | exact At.four st0 | exact At.four (At.drew (At.below st0 (grow _ _))) | exact At.four (At.below st0 hx)) (first | (go_at_call 29; refine (reg_any _ _ (by omega)).mono ?_; rintro e w5 ⟨rfl, rfl⟩) | (go_at_call 31; refine (line3 (name o) (rt a) (rt b) (rt c) w2 9 (by omega) (by omega) (by omega) (by omega)).mono ?_; rintro e w6 ⟨rfl, hx⟩))
  all_goals
    go_wp2_with fail
    go_ret
    exact ⟨ret_str (by rw [HT.out]), bV.trans (hx.mono bV.size)⟩
set_option maxRecDepth 100000 in
set_option maxHeartbeats 4000000 in
theorem text_m1 (x : Is.Ins) (hx : x.Ok) (w : World) (hT : Tab w) (he : (Is.enc x).2 = 0) (e1 : 20 ≤ x.op) (e2 : x.op ≤ 24) :
    Calls Tryd.prog 15 #[.agg (ic x)] w fun e w' => e = .returned (.string (st (txt x))) ∧ Below w.heap.size w w' := by
  obtain ⟨o, a, b, c, m⟩ := x
  simp only at e1 e2
  have HT : Hid (txt ⟨o, a, b, c, m⟩ = name o ++ 32 :: jn [rt a, Lib.itoa m ++ 40 :: (rt b ++ [41])]) := Lib.hid (by unfold txt body; rw [if_neg (by rw [he]; simp), if_neg (show ¬ Is.hasC o from by unfold Is.hasC; omega), if_pos (show (20 ≤ o ∧ o ≤ 24) ∨ o = 30 from by omega)])
  have hen := enc_any ⟨o, a, b, c, m⟩ hx
  obtain ⟨ho, hr, hk⟩ := Is.enc_ok (x := ⟨o, a, b, c, m⟩) (w := (Is.enc ⟨o, a, b, c, m⟩).1) (by rw [← he])
  have hm : -1000000 < m ∧ m < 1000000 := by
    rcases hk with ⟨_, h, _⟩ | ⟨_, h, _⟩
    · simp only at h; omega
    · rcases h with ⟨_, _, _⟩ | ⟨_, _, _⟩ <;> simp only at * <;> omega
  have hrr := regs_le hr
  obtain ⟨ra, rb, rc, _⟩ := hrr
  simp only at ra rb rc
  obtain ⟨V, hV⟩ : ∃ V, V = w.alloc (Obj.cells (ic ⟨o, a, b, c, m⟩) 23) := ⟨_, rfl⟩
  have st0 : At V w.heap.size ⟨o, a, b, c, m⟩ := by rw [hV]; exact at_new _ _ _
  have bV : Below w.heap.size w V := by rw [hV]; exact grow _ _
  have TV := hT.below bV
  obtain ⟨k0, k1, k2, k3, k4⟩ := at_new w ⟨o, a, b, c, m⟩ 23
  have HV := Lib.hid hV
  rw [he] at hen
  obtain ⟨v, hv⟩ : ∃ v, v = (Is.enc ⟨o, a, b, c, m⟩).1 := ⟨_, rfl⟩
  rw [← hv] at hen
  clear hV hv he hk hr ho hx
  have o3 : o < 32 := by omega
  have hc2 := decide_eq_false (p := Is.hasC o) (by unfold Is.hasC; omega)
  have d1 : 20 ≤ (o : Int) := by omega
  have d2 : (o : Int) ≤ 24 := by omega
  have o1 : (o : Int) ≤ 31 := by omega
  go_enter Tryd.func15, Tryd.ntmps15
  go_wp2_with fail
  change Calls _ _ #[.agg (ic ⟨o, a, b, c, m⟩)] (w.alloc (Obj.cells (ic ⟨o, a, b, c, m⟩) 23)) _
  rw [← HV.out]
  clear k0 k1 k2 k3 k4
  refine (hen _).mono ?_
  rintro e w1 ⟨rfl, hb⟩
  replace st0 := st0.below hb
  replace TV := TV.below hb
  replace bV := bV.trans (hb.mono bV.size)
  clear hb HV
  obtain ⟨k0, k1, k2, k3, k4⟩ := id st0
  go_wp2_with fail
  refine (itoa_any m _ hm.1 hm.2 TV).mono ?_
  rintro e w2 ⟨rfl, hb⟩
  clear k0 k1 k2 k3 k4
  replace st0 := st0.below hb
  replace TV := TV.below hb
  replace bV := bV.trans (hb.mono bV.size)
  clear hb
  obtain ⟨k0, k1, k2, k3, k4⟩ := id st0
  have kn := TV.names o o3
  have ln := name_len o o3
  have la := rt_len a (by omega)
  have lb := rt_len b (by omega)
  have lc := rt_len c (by omega)
  have lm := itoa_len m hm.1 hm.2
  have lsm : (st (Lib.itoa m)).size ≤ 8 := by rw [st_size]; exact lm
  have lsb : (st (rt b)).size ≤ 4 := by rw [st_size]; exact lb
  go_wp2_with fail
  refine (hasC_any _ _).mono ?_
  rintro e w3 ⟨rfl, rfl⟩
  rw [hc2]
  go_wp2_with fail
  have ea : st (Lib.itoa m) ++ ⟨#[40]⟩ ++ st (rt b) ++ ⟨#[41]⟩ = st (Lib.itoa m ++ 40 :: (rt b ++ [41])) := by
    rw [show (⟨#[40]⟩ : ByteArray) = st [40] from rfl, show (⟨#[41]⟩ : ByteArray) = st [41] from rfl, st_app, st_app, st_app]
    simp
  have h31 := line2d (name o) (rt a) (Lib.itoa m ++ 40 :: (rt b ++ [41])) w2 9 (by omega) (by omega) (by simp; omega)
  rw [← ea] at h31
  clear ea
  have z1 : ¬ 9223372036854775807 < (st (Lib.itoa m)).size + 1 := by omega
  have z2 : ¬ 9223372036854775807 < (st (Lib.itoa m)).size + 1 + (st (rt b)).size := by omega
  have z3 : ¬ 9223372036854775807 < (st (Lib.itoa m)).size + 1 + (st (rt b)).size + 1 := by omega
  go_region_held3 (fun u => u.cell? ⟨w.heap.size, 1, none⟩ = some (.int .u8 (a : Nat)) ∧ u.cell? ⟨w.heap.size, 2, none⟩ = some (.int .u8 (b : Nat))) (first | exact At.two st0 | exact At.two (At.drew (At.below st0 (grow _ _))) | exact At.two (At.below st0 hx)) (first | (go_at_call 29; refine (reg_any _ _ (by omega)).mono ?_; rintro e w5 ⟨rfl, rfl⟩) | (go_at_call 31; refine (h31).mono ?_; rintro e w6 ⟨rfl, hx⟩))
  all_goals
    go_wp2_with fail
    go_ret
    exact ⟨ret_str (by rw [HT.out]), bV.trans (hx.mono bV.size)⟩
set_option maxRecDepth 100000 in
set_option maxHeartbeats 4000000 in
theorem text_m2 (x : Is.Ins) (hx : x.Ok) (w : World) (hT : Tab w) (he : (Is.enc x).2 = 0) (e1 : 30 ≤ x.op) (e2 : x.op ≤ 30) :
    Calls Tryd.prog 15 #[.agg (ic x)] w fun e w' => e = .returned (.string (st (txt x))) ∧ Below w.heap.size w w' := by
  obtain ⟨o, a, b, c, m⟩ := x
  simp only at e1 e2
  have HT : Hid (txt ⟨o, a, b, c, m⟩ = name o ++ 32 :: jn [rt a, Lib.itoa m ++ 40 :: (rt b ++ [41])]) := Lib.hid (by unfold txt body; rw [if_neg (by rw [he]; simp), if_neg (show ¬ Is.hasC o from by unfold Is.hasC; omega), if_pos (show (20 ≤ o ∧ o ≤ 24) ∨ o = 30 from by omega)])
  have hen := enc_any ⟨o, a, b, c, m⟩ hx
  obtain ⟨ho, hr, hk⟩ := Is.enc_ok (x := ⟨o, a, b, c, m⟩) (w := (Is.enc ⟨o, a, b, c, m⟩).1) (by rw [← he])
  have hm : -1000000 < m ∧ m < 1000000 := by
    rcases hk with ⟨_, h, _⟩ | ⟨_, h, _⟩
    · simp only at h; omega
    · rcases h with ⟨_, _, _⟩ | ⟨_, _, _⟩ <;> simp only at * <;> omega
  have hrr := regs_le hr
  obtain ⟨ra, rb, rc, _⟩ := hrr
  simp only at ra rb rc
  obtain ⟨V, hV⟩ : ∃ V, V = w.alloc (Obj.cells (ic ⟨o, a, b, c, m⟩) 23) := ⟨_, rfl⟩
  have st0 : At V w.heap.size ⟨o, a, b, c, m⟩ := by rw [hV]; exact at_new _ _ _
  have bV : Below w.heap.size w V := by rw [hV]; exact grow _ _
  have TV := hT.below bV
  obtain ⟨k0, k1, k2, k3, k4⟩ := at_new w ⟨o, a, b, c, m⟩ 23
  have HV := Lib.hid hV
  rw [he] at hen
  obtain ⟨v, hv⟩ : ∃ v, v = (Is.enc ⟨o, a, b, c, m⟩).1 := ⟨_, rfl⟩
  rw [← hv] at hen
  clear hV hv he hk hr ho hx
  have o3 : o < 32 := by omega
  have hc2 := decide_eq_false (p := Is.hasC o) (by unfold Is.hasC; omega)
  have d1 : 20 ≤ (o : Int) := by omega
  have d2 : decide ((o : Int) ≤ 24) = false := by rw [decide_eq_false_iff_not]; omega
  have d3 : ((o : Int) == 30) = true := by rw [beq_iff_eq]; omega
  have o1 : (o : Int) ≤ 31 := by omega
  go_enter Tryd.func15, Tryd.ntmps15
  go_wp2_with fail
  change Calls _ _ #[.agg (ic ⟨o, a, b, c, m⟩)] (w.alloc (Obj.cells (ic ⟨o, a, b, c, m⟩) 23)) _
  rw [← HV.out]
  clear k0 k1 k2 k3 k4
  refine (hen _).mono ?_
  rintro e w1 ⟨rfl, hb⟩
  replace st0 := st0.below hb
  replace TV := TV.below hb
  replace bV := bV.trans (hb.mono bV.size)
  clear hb HV
  obtain ⟨k0, k1, k2, k3, k4⟩ := id st0
  go_wp2_with fail
  refine (itoa_any m _ hm.1 hm.2 TV).mono ?_
  rintro e w2 ⟨rfl, hb⟩
  clear k0 k1 k2 k3 k4
  replace st0 := st0.below hb
  replace TV := TV.below hb
  replace bV := bV.trans (hb.mono bV.size)
  clear hb
  obtain ⟨k0, k1, k2, k3, k4⟩ := id st0
  have kn := TV.names o o3
  have ln := name_len o o3
  have la := rt_len a (by omega)
  have lb := rt_len b (by omega)
  have lc := rt_len c (by omega)
  have lm := itoa_len m hm.1 hm.2
  have lsm : (st (Lib.itoa m)).size ≤ 8 := by rw [st_size]; exact lm
  have lsb : (st (rt b)).size ≤ 4 := by rw [st_size]; exact lb
  go_wp2_with fail
  refine (hasC_any _ _).mono ?_
  rintro e w3 ⟨rfl, rfl⟩
  rw [hc2]
  go_wp2_with fail
  have ea : st (Lib.itoa m) ++ ⟨#[40]⟩ ++ st (rt b) ++ ⟨#[41]⟩ = st (Lib.itoa m ++ 40 :: (rt b ++ [41])) := by
    rw [show (⟨#[40]⟩ : ByteArray) = st [40] from rfl, show (⟨#[41]⟩ : ByteArray) = st [41] from rfl, st_app, st_app, st_app]
    simp
  have h31 := line2d (name o) (rt a) (Lib.itoa m ++ 40 :: (rt b ++ [41])) w2 9 (by omega) (by omega) (by simp; omega)
  rw [← ea] at h31
  clear ea
  have z1 : ¬ 9223372036854775807 < (st (Lib.itoa m)).size + 1 := by omega
  have z2 : ¬ 9223372036854775807 < (st (Lib.itoa m)).size + 1 + (st (rt b)).size := by omega
  have z3 : ¬ 9223372036854775807 < (st (Lib.itoa m)).size + 1 + (st (rt b)).size + 1 := by omega
  go_region_held3 (fun u => u.cell? ⟨w.heap.size, 1, none⟩ = some (.int .u8 (a : Nat)) ∧ u.cell? ⟨w.heap.size, 2, none⟩ = some (.int .u8 (b : Nat))) (first | exact At.two st0 | exact At.two (At.drew (At.below st0 (grow _ _))) | exact At.two (At.below st0 hx)) (first | (go_at_call 29; refine (reg_any _ _ (by omega)).mono ?_; rintro e w5 ⟨rfl, rfl⟩) | (go_at_call 31; refine (h31).mono ?_; rintro e w6 ⟨rfl, hx⟩))
  all_goals
    go_wp2_with fail
    go_ret
    exact ⟨ret_str (by rw [HT.out]), bV.trans (hx.mono bV.size)⟩
set_option maxRecDepth 100000 in
set_option maxHeartbeats 4000000 in
theorem text_b1 (x : Is.Ins) (hx : x.Ok) (w : World) (hT : Tab w) (he : (Is.enc x).2 = 0) (e1 : 14 ≤ x.op) (e2 : x.op ≤ 18) :
    Calls Tryd.prog 15 #[.agg (ic x)] w fun e w' => e = .returned (.string (st (txt x))) ∧ Below w.heap.size w w' := by
  obtain ⟨o, a, b, c, m⟩ := x
  simp only at e1 e2
  have HT : Hid (txt ⟨o, a, b, c, m⟩ = name o ++ 32 :: jn [rt a, rt b, Lib.itoa m]) := Lib.hid (by unfold txt body; rw [if_neg (by rw [he]; simp), if_neg (show ¬ Is.hasC o from by unfold Is.hasC; omega), if_neg (show ¬ ((20 ≤ o ∧ o ≤ 24) ∨ o = 30) from by omega), if_pos (show Is.hasB o from by unfold Is.hasB; omega)])
  have hen := enc_any ⟨o, a, b, c, m⟩ hx
  obtain ⟨ho, hr, hk⟩ := Is.enc_ok (x := ⟨o, a, b, c, m⟩) (w := (Is.enc ⟨o, a, b, c, m⟩).1) (by rw [← he])
  have hm : -1000000 < m ∧ m < 1000000 := by
    rcases hk with ⟨_, h, _⟩ | ⟨_, h, _⟩
    · simp only at h; omega
    · rcases h with ⟨_, _, _⟩ | ⟨_, _, _⟩ <;> simp only at * <;> omega
  have hrr := regs_le hr
  obtain ⟨ra, rb, rc, _⟩ := hrr
  simp only at ra rb rc
  obtain ⟨V, hV⟩ : ∃ V, V = w.alloc (Obj.cells (ic ⟨o, a, b, c, m⟩) 23) := ⟨_, rfl⟩
  have st0 : At V w.heap.size ⟨o, a, b, c, m⟩ := by rw [hV]; exact at_new _ _ _
  have bV : Below w.heap.size w V := by rw [hV]; exact grow _ _
  have TV := hT.below bV
  obtain ⟨k0, k1, k2, k3, k4⟩ := at_new w ⟨o, a, b, c, m⟩ 23
  have HV := Lib.hid hV
  rw [he] at hen
  obtain ⟨v, hv⟩ : ∃ v, v = (Is.enc ⟨o, a, b, c, m⟩).1 := ⟨_, rfl⟩
  rw [← hv] at hen
  clear hV hv he hk hr ho hx
  have o3 : o < 32 := by omega
  have hc2 := decide_eq_false (p := Is.hasC o) (by unfold Is.hasC; omega)
  have d1 : decide (20 ≤ (o : Int)) = false := by rw [decide_eq_false_iff_not]; omega
  have d3 : ((o : Int) == 30) = false := by rw [beq_eq_false_iff_ne]; omega
  have hb2 := decide_eq_true (p := Is.hasB o) (by unfold Is.hasB; omega)
  have o1 : (o : Int) ≤ 31 := by omega
  go_enter Tryd.func15, Tryd.ntmps15
  go_wp2_with fail
  change Calls _ _ #[.agg (ic ⟨o, a, b, c, m⟩)] (w.alloc (Obj.cells (ic ⟨o, a, b, c, m⟩) 23)) _
  rw [← HV.out]
  clear k0 k1 k2 k3 k4
  refine (hen _).mono ?_
  rintro e w1 ⟨rfl, hb⟩
  replace st0 := st0.below hb
  replace TV := TV.below hb
  replace bV := bV.trans (hb.mono bV.size)
  clear hb HV
  obtain ⟨k0, k1, k2, k3, k4⟩ := id st0
  go_wp2_with fail
  refine (itoa_any m _ hm.1 hm.2 TV).mono ?_
  rintro e w2 ⟨rfl, hb⟩
  clear k0 k1 k2 k3 k4
  replace st0 := st0.below hb
  replace TV := TV.below hb
  replace bV := bV.trans (hb.mono bV.size)
  clear hb
  obtain ⟨k0, k1, k2, k3, k4⟩ := id st0
  have kn := TV.names o o3
  have ln := name_len o o3
  have la := rt_len a (by omega)
  have lb := rt_len b (by omega)
  have lc := rt_len c (by omega)
  have lm := itoa_len m hm.1 hm.2
  have lsm : (st (Lib.itoa m)).size ≤ 8 := by rw [st_size]; exact lm
  have lsb : (st (rt b)).size ≤ 4 := by rw [st_size]; exact lb
  go_wp2_with fail
  refine (hasC_any _ _).mono ?_
  rintro e w3 ⟨rfl, rfl⟩
  rw [hc2]
  go_wp2_with fail
  refine (hasB_any _ _).mono ?_
  rintro e w3 ⟨rfl, rfl⟩
  rw [hb2]
  go_wp2_with fail
  go_region_held3 (fun u => u.cell? ⟨w.heap.size, 1, none⟩ = some (.int .u8 (a : Nat)) ∧ u.cell? ⟨w.heap.size, 2, none⟩ = some (.int .u8 (b : Nat))) (first | exact At.two st0 | exact At.two (At.drew (At.below st0 (grow _ _))) | exact At.two (At.below st0 hx)) (first | (go_at_call 29; refine (reg_any _ _ (by omega)).mono ?_; rintro e w5 ⟨rfl, rfl⟩) | (go_at_call 31; refine (line3 (name o) (rt a) (rt b) (Lib.itoa m) w2 9 (by omega) (by omega) (by omega) (by omega)).mono ?_; rintro e w6 ⟨rfl, hx⟩))
  all_goals
    go_wp2_with fail
    go_ret
    exact ⟨ret_str (by rw [HT.out]), bV.trans (hx.mono bV.size)⟩
set_option maxRecDepth 100000 in
set_option maxHeartbeats 4000000 in
theorem text_b2 (x : Is.Ins) (hx : x.Ok) (w : World) (hT : Tab w) (he : (Is.enc x).2 = 0) (e1 : 25 ≤ x.op) (e2 : x.op ≤ 28) :
    Calls Tryd.prog 15 #[.agg (ic x)] w fun e w' => e = .returned (.string (st (txt x))) ∧ Below w.heap.size w w' := by
  obtain ⟨o, a, b, c, m⟩ := x
  simp only at e1 e2
  have HT : Hid (txt ⟨o, a, b, c, m⟩ = name o ++ 32 :: jn [rt a, rt b, Lib.itoa m]) := Lib.hid (by unfold txt body; rw [if_neg (by rw [he]; simp), if_neg (show ¬ Is.hasC o from by unfold Is.hasC; omega), if_neg (show ¬ ((20 ≤ o ∧ o ≤ 24) ∨ o = 30) from by omega), if_pos (show Is.hasB o from by unfold Is.hasB; omega)])
  have hen := enc_any ⟨o, a, b, c, m⟩ hx
  obtain ⟨ho, hr, hk⟩ := Is.enc_ok (x := ⟨o, a, b, c, m⟩) (w := (Is.enc ⟨o, a, b, c, m⟩).1) (by rw [← he])
  have hm : -1000000 < m ∧ m < 1000000 := by
    rcases hk with ⟨_, h, _⟩ | ⟨_, h, _⟩
    · simp only at h; omega
    · rcases h with ⟨_, _, _⟩ | ⟨_, _, _⟩ <;> simp only at * <;> omega
  have hrr := regs_le hr
  obtain ⟨ra, rb, rc, _⟩ := hrr
  simp only at ra rb rc
  obtain ⟨V, hV⟩ : ∃ V, V = w.alloc (Obj.cells (ic ⟨o, a, b, c, m⟩) 23) := ⟨_, rfl⟩
  have st0 : At V w.heap.size ⟨o, a, b, c, m⟩ := by rw [hV]; exact at_new _ _ _
  have bV : Below w.heap.size w V := by rw [hV]; exact grow _ _
  have TV := hT.below bV
  obtain ⟨k0, k1, k2, k3, k4⟩ := at_new w ⟨o, a, b, c, m⟩ 23
  have HV := Lib.hid hV
  rw [he] at hen
  obtain ⟨v, hv⟩ : ∃ v, v = (Is.enc ⟨o, a, b, c, m⟩).1 := ⟨_, rfl⟩
  rw [← hv] at hen
  clear hV hv he hk hr ho hx
  have o3 : o < 32 := by omega
  have hc2 := decide_eq_false (p := Is.hasC o) (by unfold Is.hasC; omega)
  have d1 : 20 ≤ (o : Int) := by omega
  have d2 : decide ((o : Int) ≤ 24) = false := by rw [decide_eq_false_iff_not]; omega
  have d3 : ((o : Int) == 30) = false := by rw [beq_eq_false_iff_ne]; omega
  have hb2 := decide_eq_true (p := Is.hasB o) (by unfold Is.hasB; omega)
  have o1 : (o : Int) ≤ 31 := by omega
  go_enter Tryd.func15, Tryd.ntmps15
  go_wp2_with fail
  change Calls _ _ #[.agg (ic ⟨o, a, b, c, m⟩)] (w.alloc (Obj.cells (ic ⟨o, a, b, c, m⟩) 23)) _
  rw [← HV.out]
  clear k0 k1 k2 k3 k4
  refine (hen _).mono ?_
  rintro e w1 ⟨rfl, hb⟩
  replace st0 := st0.below hb
  replace TV := TV.below hb
  replace bV := bV.trans (hb.mono bV.size)
  clear hb HV
  obtain ⟨k0, k1, k2, k3, k4⟩ := id st0
  go_wp2_with fail
  refine (itoa_any m _ hm.1 hm.2 TV).mono ?_
  rintro e w2 ⟨rfl, hb⟩
  clear k0 k1 k2 k3 k4
  replace st0 := st0.below hb
  replace TV := TV.below hb
  replace bV := bV.trans (hb.mono bV.size)
  clear hb
  obtain ⟨k0, k1, k2, k3, k4⟩ := id st0
  have kn := TV.names o o3
  have ln := name_len o o3
  have la := rt_len a (by omega)
  have lb := rt_len b (by omega)
  have lc := rt_len c (by omega)
  have lm := itoa_len m hm.1 hm.2
  have lsm : (st (Lib.itoa m)).size ≤ 8 := by rw [st_size]; exact lm
  have lsb : (st (rt b)).size ≤ 4 := by rw [st_size]; exact lb
  go_wp2_with fail
  refine (hasC_any _ _).mono ?_
  rintro e w3 ⟨rfl, rfl⟩
  rw [hc2]
  go_wp2_with fail
  refine (hasB_any _ _).mono ?_
  rintro e w3 ⟨rfl, rfl⟩
  rw [hb2]
  go_wp2_with fail
  go_region_held3 (fun u => u.cell? ⟨w.heap.size, 1, none⟩ = some (.int .u8 (a : Nat)) ∧ u.cell? ⟨w.heap.size, 2, none⟩ = some (.int .u8 (b : Nat))) (first | exact At.two st0 | exact At.two (At.drew (At.below st0 (grow _ _))) | exact At.two (At.below st0 hx)) (first | (go_at_call 29; refine (reg_any _ _ (by omega)).mono ?_; rintro e w5 ⟨rfl, rfl⟩) | (go_at_call 31; refine (line3 (name o) (rt a) (rt b) (Lib.itoa m) w2 9 (by omega) (by omega) (by omega) (by omega)).mono ?_; rintro e w6 ⟨rfl, hx⟩))
  all_goals
    go_wp2_with fail
    go_ret
    exact ⟨ret_str (by rw [HT.out]), bV.trans (hx.mono bV.size)⟩
set_option maxRecDepth 100000 in
set_option maxHeartbeats 4000000 in
theorem text_a1 (x : Is.Ins) (hx : x.Ok) (w : World) (hT : Tab w) (he : (Is.enc x).2 = 0) (e1 : 19 ≤ x.op) (e2 : x.op ≤ 19) :
    Calls Tryd.prog 15 #[.agg (ic x)] w fun e w' => e = .returned (.string (st (txt x))) ∧ Below w.heap.size w w' := by
  obtain ⟨o, a, b, c, m⟩ := x
  simp only at e1 e2
  have HT : Hid (txt ⟨o, a, b, c, m⟩ = name o ++ 32 :: jn [rt a, Lib.itoa m]) := Lib.hid (by unfold txt body; rw [if_neg (by rw [he]; simp), if_neg (show ¬ Is.hasC o from by unfold Is.hasC; omega), if_neg (show ¬ ((20 ≤ o ∧ o ≤ 24) ∨ o = 30) from by omega), if_neg (show ¬ Is.hasB o from by unfold Is.hasB; omega), if_pos (show Is.hasA o from by unfold Is.hasA; omega)])
  have hen := enc_any ⟨o, a, b, c, m⟩ hx
  obtain ⟨ho, hr, hk⟩ := Is.enc_ok (x := ⟨o, a, b, c, m⟩) (w := (Is.enc ⟨o, a, b, c, m⟩).1) (by rw [← he])
  have hm : -1000000 < m ∧ m < 1000000 := by
    rcases hk with ⟨_, h, _⟩ | ⟨_, h, _⟩
    · simp only at h; omega
    · rcases h with ⟨_, _, _⟩ | ⟨_, _, _⟩ <;> simp only at * <;> omega
  have hrr := regs_le hr
  obtain ⟨ra, rb, rc, _⟩ := hrr
  simp only at ra rb rc
  obtain ⟨V, hV⟩ : ∃ V, V = w.alloc (Obj.cells (ic ⟨o, a, b, c, m⟩) 23) := ⟨_, rfl⟩
  have st0 : At V w.heap.size ⟨o, a, b, c, m⟩ := by rw [hV]; exact at_new _ _ _
  have bV : Below w.heap.size w V := by rw [hV]; exact grow _ _
  have TV := hT.below bV
  obtain ⟨k0, k1, k2, k3, k4⟩ := at_new w ⟨o, a, b, c, m⟩ 23
  have HV := Lib.hid hV
  rw [he] at hen
  obtain ⟨v, hv⟩ : ∃ v, v = (Is.enc ⟨o, a, b, c, m⟩).1 := ⟨_, rfl⟩
  rw [← hv] at hen
  clear hV hv he hk hr ho hx
  have o3 : o < 32 := by omega
  have hc2 := decide_eq_false (p := Is.hasC o) (by unfold Is.hasC; omega)
  have d1 : decide (20 ≤ (o : Int)) = false := by rw [decide_eq_false_iff_not]; omega
  have d3 : ((o : Int) == 30) = false := by rw [beq_eq_false_iff_ne]; omega
  have hb2 := decide_eq_false (p := Is.hasB o) (by unfold Is.hasB; omega)
  have ha2 := decide_eq_true (p := Is.hasA o) (by unfold Is.hasA; omega)
  have o1 : (o : Int) ≤ 31 := by omega
  go_enter Tryd.func15, Tryd.ntmps15
  go_wp2_with fail
  change Calls _ _ #[.agg (ic ⟨o, a, b, c, m⟩)] (w.alloc (Obj.cells (ic ⟨o, a, b, c, m⟩) 23)) _
  rw [← HV.out]
  clear k0 k1 k2 k3 k4
  refine (hen _).mono ?_
  rintro e w1 ⟨rfl, hb⟩
  replace st0 := st0.below hb
  replace TV := TV.below hb
  replace bV := bV.trans (hb.mono bV.size)
  clear hb HV
  obtain ⟨k0, k1, k2, k3, k4⟩ := id st0
  go_wp2_with fail
  refine (itoa_any m _ hm.1 hm.2 TV).mono ?_
  rintro e w2 ⟨rfl, hb⟩
  clear k0 k1 k2 k3 k4
  replace st0 := st0.below hb
  replace TV := TV.below hb
  replace bV := bV.trans (hb.mono bV.size)
  clear hb
  obtain ⟨k0, k1, k2, k3, k4⟩ := id st0
  have kn := TV.names o o3
  have ln := name_len o o3
  have la := rt_len a (by omega)
  have lb := rt_len b (by omega)
  have lc := rt_len c (by omega)
  have lm := itoa_len m hm.1 hm.2
  have lsm : (st (Lib.itoa m)).size ≤ 8 := by rw [st_size]; exact lm
  have lsb : (st (rt b)).size ≤ 4 := by rw [st_size]; exact lb
  go_wp2_with fail
  refine (hasC_any _ _).mono ?_
  rintro e w3 ⟨rfl, rfl⟩
  rw [hc2]
  go_wp2_with fail
  refine (hasB_any _ _).mono ?_
  rintro e w3 ⟨rfl, rfl⟩
  rw [hb2]
  go_wp2_with fail
  refine (hasA_any _ _).mono ?_
  rintro e w3 ⟨rfl, rfl⟩
  rw [ha2]
  go_wp2_with fail
  refine (reg_any _ _ (by omega)).mono ?_
  rintro e w5 ⟨rfl, rfl⟩
  go_wp2_with fail
  refine (line2 (name o) (rt a) (Lib.itoa m) w2 9 (by omega) (by omega) (by omega)).mono ?_
  rintro e w6 ⟨rfl, hx⟩
  all_goals
    go_wp2_with fail
    go_ret
    exact ⟨ret_str (by rw [HT.out]), bV.trans (hx.mono bV.size)⟩
set_option maxRecDepth 100000 in
set_option maxHeartbeats 4000000 in
theorem text_a2 (x : Is.Ins) (hx : x.Ok) (w : World) (hT : Tab w) (he : (Is.enc x).2 = 0) (e1 : 29 ≤ x.op) (e2 : x.op ≤ 29) :
    Calls Tryd.prog 15 #[.agg (ic x)] w fun e w' => e = .returned (.string (st (txt x))) ∧ Below w.heap.size w w' := by
  obtain ⟨o, a, b, c, m⟩ := x
  simp only at e1 e2
  have HT : Hid (txt ⟨o, a, b, c, m⟩ = name o ++ 32 :: jn [rt a, Lib.itoa m]) := Lib.hid (by unfold txt body; rw [if_neg (by rw [he]; simp), if_neg (show ¬ Is.hasC o from by unfold Is.hasC; omega), if_neg (show ¬ ((20 ≤ o ∧ o ≤ 24) ∨ o = 30) from by omega), if_neg (show ¬ Is.hasB o from by unfold Is.hasB; omega), if_pos (show Is.hasA o from by unfold Is.hasA; omega)])
  have hen := enc_any ⟨o, a, b, c, m⟩ hx
  obtain ⟨ho, hr, hk⟩ := Is.enc_ok (x := ⟨o, a, b, c, m⟩) (w := (Is.enc ⟨o, a, b, c, m⟩).1) (by rw [← he])
  have hm : -1000000 < m ∧ m < 1000000 := by
    rcases hk with ⟨_, h, _⟩ | ⟨_, h, _⟩
    · simp only at h; omega
    · rcases h with ⟨_, _, _⟩ | ⟨_, _, _⟩ <;> simp only at * <;> omega
  have hrr := regs_le hr
  obtain ⟨ra, rb, rc, _⟩ := hrr
  simp only at ra rb rc
  obtain ⟨V, hV⟩ : ∃ V, V = w.alloc (Obj.cells (ic ⟨o, a, b, c, m⟩) 23) := ⟨_, rfl⟩
  have st0 : At V w.heap.size ⟨o, a, b, c, m⟩ := by rw [hV]; exact at_new _ _ _
  have bV : Below w.heap.size w V := by rw [hV]; exact grow _ _
  have TV := hT.below bV
  obtain ⟨k0, k1, k2, k3, k4⟩ := at_new w ⟨o, a, b, c, m⟩ 23
  have HV := Lib.hid hV
  rw [he] at hen
  obtain ⟨v, hv⟩ : ∃ v, v = (Is.enc ⟨o, a, b, c, m⟩).1 := ⟨_, rfl⟩
  rw [← hv] at hen
  clear hV hv he hk hr ho hx
  have o3 : o < 32 := by omega
  have hc2 := decide_eq_false (p := Is.hasC o) (by unfold Is.hasC; omega)
  have d1 : 20 ≤ (o : Int) := by omega
  have d2 : decide ((o : Int) ≤ 24) = false := by rw [decide_eq_false_iff_not]; omega
  have d3 : ((o : Int) == 30) = false := by rw [beq_eq_false_iff_ne]; omega
  have hb2 := decide_eq_false (p := Is.hasB o) (by unfold Is.hasB; omega)
  have ha2 := decide_eq_true (p := Is.hasA o) (by unfold Is.hasA; omega)
  have o1 : (o : Int) ≤ 31 := by omega
  go_enter Tryd.func15, Tryd.ntmps15
  go_wp2_with fail
  change Calls _ _ #[.agg (ic ⟨o, a, b, c, m⟩)] (w.alloc (Obj.cells (ic ⟨o, a, b, c, m⟩) 23)) _
  rw [← HV.out]
  clear k0 k1 k2 k3 k4
  refine (hen _).mono ?_
  rintro e w1 ⟨rfl, hb⟩
  replace st0 := st0.below hb
  replace TV := TV.below hb
  replace bV := bV.trans (hb.mono bV.size)
  clear hb HV
  obtain ⟨k0, k1, k2, k3, k4⟩ := id st0
  go_wp2_with fail
  refine (itoa_any m _ hm.1 hm.2 TV).mono ?_
  rintro e w2 ⟨rfl, hb⟩
  clear k0 k1 k2 k3 k4
  replace st0 := st0.below hb
  replace TV := TV.below hb
  replace bV := bV.trans (hb.mono bV.size)
  clear hb
  obtain ⟨k0, k1, k2, k3, k4⟩ := id st0
  have kn := TV.names o o3
  have ln := name_len o o3
  have la := rt_len a (by omega)
  have lb := rt_len b (by omega)
  have lc := rt_len c (by omega)
  have lm := itoa_len m hm.1 hm.2
  have lsm : (st (Lib.itoa m)).size ≤ 8 := by rw [st_size]; exact lm
  have lsb : (st (rt b)).size ≤ 4 := by rw [st_size]; exact lb
  go_wp2_with fail
  refine (hasC_any _ _).mono ?_
  rintro e w3 ⟨rfl, rfl⟩
  rw [hc2]
  go_wp2_with fail
  refine (hasB_any _ _).mono ?_
  rintro e w3 ⟨rfl, rfl⟩
  rw [hb2]
  go_wp2_with fail
  refine (hasA_any _ _).mono ?_
  rintro e w3 ⟨rfl, rfl⟩
  rw [ha2]
  go_wp2_with fail
  refine (reg_any _ _ (by omega)).mono ?_
  rintro e w5 ⟨rfl, rfl⟩
  go_wp2_with fail
  refine (line2 (name o) (rt a) (Lib.itoa m) w2 9 (by omega) (by omega) (by omega)).mono ?_
  rintro e w6 ⟨rfl, hx⟩
  all_goals
    go_wp2_with fail
    go_ret
    exact ⟨ret_str (by rw [HT.out]), bV.trans (hx.mono bV.size)⟩
set_option maxRecDepth 100000 in
set_option maxHeartbeats 4000000 in
theorem text_s1 (x : Is.Ins) (hx : x.Ok) (w : World) (hT : Tab w) (he : (Is.enc x).2 = 0) (e1 : 31 ≤ x.op) (e2 : x.op ≤ 31) :
    Calls Tryd.prog 15 #[.agg (ic x)] w fun e w' => e = .returned (.string (st (txt x))) ∧ Below w.heap.size w w' := by
  obtain ⟨o, a, b, c, m⟩ := x
  simp only at e1 e2
  have HT : Hid (txt ⟨o, a, b, c, m⟩ = name o ++ 32 :: jn [Lib.itoa m]) := Lib.hid (by unfold txt body; rw [if_neg (by rw [he]; simp), if_neg (show ¬ Is.hasC o from by unfold Is.hasC; omega), if_neg (show ¬ ((20 ≤ o ∧ o ≤ 24) ∨ o = 30) from by omega), if_neg (show ¬ Is.hasB o from by unfold Is.hasB; omega), if_neg (show ¬ Is.hasA o from by unfold Is.hasA; omega)])
  have hen := enc_any ⟨o, a, b, c, m⟩ hx
  obtain ⟨ho, hr, hk⟩ := Is.enc_ok (x := ⟨o, a, b, c, m⟩) (w := (Is.enc ⟨o, a, b, c, m⟩).1) (by rw [← he])
  have hm : -1000000 < m ∧ m < 1000000 := by
    rcases hk with ⟨_, h, _⟩ | ⟨_, h, _⟩
    · simp only at h; omega
    · rcases h with ⟨_, _, _⟩ | ⟨_, _, _⟩ <;> simp only at * <;> omega
  have hrr := regs_le hr
  obtain ⟨ra, rb, rc, _⟩ := hrr
  simp only at ra rb rc
  obtain ⟨V, hV⟩ : ∃ V, V = w.alloc (Obj.cells (ic ⟨o, a, b, c, m⟩) 23) := ⟨_, rfl⟩
  have st0 : At V w.heap.size ⟨o, a, b, c, m⟩ := by rw [hV]; exact at_new _ _ _
  have bV : Below w.heap.size w V := by rw [hV]; exact grow _ _
  have TV := hT.below bV
  obtain ⟨k0, k1, k2, k3, k4⟩ := at_new w ⟨o, a, b, c, m⟩ 23
  have HV := Lib.hid hV
  rw [he] at hen
  obtain ⟨v, hv⟩ : ∃ v, v = (Is.enc ⟨o, a, b, c, m⟩).1 := ⟨_, rfl⟩
  rw [← hv] at hen
  clear hV hv he hk hr ho hx
  have o3 : o < 32 := by omega
  have hc2 := decide_eq_false (p := Is.hasC o) (by unfold Is.hasC; omega)
  have d1 : 20 ≤ (o : Int) := by omega
  have d2 : decide ((o : Int) ≤ 24) = false := by rw [decide_eq_false_iff_not]; omega
  have d3 : ((o : Int) == 30) = false := by rw [beq_eq_false_iff_ne]; omega
  have hb2 := decide_eq_false (p := Is.hasB o) (by unfold Is.hasB; omega)
  have ha2 := decide_eq_false (p := Is.hasA o) (by unfold Is.hasA; omega)
  have o1 : (o : Int) ≤ 31 := by omega
  go_enter Tryd.func15, Tryd.ntmps15
  go_wp2_with fail
  change Calls _ _ #[.agg (ic ⟨o, a, b, c, m⟩)] (w.alloc (Obj.cells (ic ⟨o, a, b, c, m⟩) 23)) _
  rw [← HV.out]
  clear k0 k1 k2 k3 k4
  refine (hen _).mono ?_
  rintro e w1 ⟨rfl, hb⟩
  replace st0 := st0.below hb
  replace TV := TV.below hb
  replace bV := bV.trans (hb.mono bV.size)
  clear hb HV
  obtain ⟨k0, k1, k2, k3, k4⟩ := id st0
  go_wp2_with fail
  refine (itoa_any m _ hm.1 hm.2 TV).mono ?_
  rintro e w2 ⟨rfl, hb⟩
  clear k0 k1 k2 k3 k4
  replace st0 := st0.below hb
  replace TV := TV.below hb
  replace bV := bV.trans (hb.mono bV.size)
  clear hb
  obtain ⟨k0, k1, k2, k3, k4⟩ := id st0
  have kn := TV.names o o3
  have ln := name_len o o3
  have la := rt_len a (by omega)
  have lb := rt_len b (by omega)
  have lc := rt_len c (by omega)
  have lm := itoa_len m hm.1 hm.2
  have lsm : (st (Lib.itoa m)).size ≤ 8 := by rw [st_size]; exact lm
  have lsb : (st (rt b)).size ≤ 4 := by rw [st_size]; exact lb
  go_wp2_with fail
  refine (hasC_any _ _).mono ?_
  rintro e w3 ⟨rfl, rfl⟩
  rw [hc2]
  go_wp2_with fail
  refine (hasB_any _ _).mono ?_
  rintro e w3 ⟨rfl, rfl⟩
  rw [hb2]
  go_wp2_with fail
  refine (hasA_any _ _).mono ?_
  rintro e w3 ⟨rfl, rfl⟩
  rw [ha2]
  go_wp2_with fail
  refine (line1 (name o) (Lib.itoa m) w2 9 (by omega) (by omega)).mono ?_
  rintro e w6 ⟨rfl, hx⟩
  all_goals
    go_wp2_with fail
    go_ret
    exact ⟨ret_str (by rw [HT.out]), bV.trans (hx.mono bV.size)⟩
end Go.Proofs.YtmafeekhbcpomaaDoor
