/-
  THE WALK of the document's Text.
-/
import Derived.Test.YtmafeekhbcpomaaDoorNm
import Derived.Deep.RegionWith
namespace Go.Proofs.YtmafeekhbcpomaaDoor
open Go.RowKit
set_option linter.unusedVariables false
set_option linter.unusedSimpArgs false
theorem q44 : (⟨#[44, 32]⟩ : ByteArray) = st [44, 32] := rfl
theorem q32 : (⟨#[32]⟩ : ByteArray) = st [32] := rfl
theorem q40 : (⟨#[40]⟩ : ByteArray) = st [40] := rfl
theorem q41 : (⟨#[41]⟩ : ByteArray) = st [41] := rfl
set_option maxRecDepth 100000 in
set_option maxHeartbeats 4000000 in
theorem rtext_1 (x : Is.Ins) (hx : x.Ok) (w : World) (he : (Is.enc x).2 = 0) (e1 : 1 ≤ x.op ∧ x.op ≤ 13) :
    Calls Tryd.prog 16 #[.agg (ic x)] w fun e w' => e = .returned (.string (st (txt x))) ∧ Below w.heap.size w w' := by
  obtain ⟨o, a, b, c, m⟩ := x
  simp only at e1
  have HT : Hid (txt ⟨o, a, b, c, m⟩ = name o ++ 32 :: jn [rt a, rt b, rt c]) := Lib.hid (by unfold txt body; rw [if_neg (by rw [he]; simp), if_pos (by unfold Is.hasC; omega : Is.hasC o)])
  have hen := renc_any ⟨o, a, b, c, m⟩ hx
  have hfo := fun wr => form_any o wr
  have hfk : form o = 1 := by
    have := form_is o
    unfold Is.isOp at this
    omega
  rw [hfk] at hfo
  clear hfk
  obtain ⟨ho, hr, hk⟩ := Is.enc_ok (x := ⟨o, a, b, c, m⟩) (w := (Is.enc ⟨o, a, b, c, m⟩).1) (by rw [← he])
  have hm : -1000000 < m ∧ m < 1000000 := by
    rcases hk with ⟨_, h, _⟩ | ⟨_, h, _⟩
    · simp only at h; omega
    · rcases h with ⟨_, _, _⟩ | ⟨_, _, _⟩ <;> simp only at * <;> omega
  have hrr := regs_le hr
  obtain ⟨ra, rb, rc, _⟩ := hrr
  simp only at ra rb rc
  obtain ⟨V, hV⟩ : ∃ V, V = w.alloc (Obj.cells (ic ⟨o, a, b, c, m⟩) 23) := ⟨_, rfl⟩
  have st0 : At V w.heap.size ⟨o, a, b, c, m⟩ := by rw [hV]; exact at_new _ _ _
  have bV : Below w.heap.size w V := by rw [hV]; exact grow _ _
  obtain ⟨k0, k1, k2, k3, k4⟩ := at_new w ⟨o, a, b, c, m⟩ 23
  have HV := Lib.hid hV
  rw [he] at hen
  obtain ⟨v, hv⟩ : ∃ v, v = (Is.enc ⟨o, a, b, c, m⟩).1 := ⟨_, rfl⟩
  rw [← hv] at hen
  have o3 : o < 32 := by have := ho.2; simp only at this; omega
  have o4 : 1 ≤ o := by have := ho.1; simp only at this; omega
  clear hV hv he hk hr ho hx e1
  have o1 : (o : Int) ≤ 31 := by omega
  have o2 : 1 ≤ (o : Int) := by omega
  go_enter Tryd.func16, Tryd.ntmps16
  go_wp2_with fail
  change Calls _ _ #[.agg (ic ⟨o, a, b, c, m⟩)] (w.alloc (Obj.cells (ic ⟨o, a, b, c, m⟩) 23)) _
  rw [← HV.out]
  clear k0 k1 k2 k3 k4
  refine (hen _).mono ?_
  rintro e w1 ⟨rfl, hb⟩
  replace st0 := st0.below hb
  replace bV := bV.trans (hb.mono bV.size)
  clear hb HV
  obtain ⟨k0, k1, k2, k3, k4⟩ := id st0
  have ln := name_len o o3
  have la := rt_len a (by omega)
  have lb := rt_len b (by omega)
  have lc := rt_len c (by omega)
  have lm := itoa_len m hm.1 hm.2
  have lsm : (st (Lib.itoa m)).size ≤ 8 := by rw [st_size]; exact lm
  have lsa : (st (rt a)).size ≤ 4 := by rw [st_size]; exact la
  have lsb : (st (rt b)).size ≤ 4 := by rw [st_size]; exact lb
  have lsc : (st (rt c)).size ≤ 4 := by rw [st_size]; exact lc
  have lsn : (st (name o)).size ≤ 4 := by rw [st_size]; exact ln
  obtain ⟨p, hp⟩ : ∃ p, p = o - 1 := ⟨_, rfl⟩
  have iw : IntKind.u8.wrap (p : Int) = (p : Int) := by simp only [IntKind.wrap, IntKind.signed, IntKind.bits]; simp; omega
  have iv : (p : Int) % 256 = (p : Int) := by omega
  have iu : (o : Int) - 1 = (p : Int) := by omega
  have i0 : (0 : Int) ≤ (p : Int) := by omega
  have i1 : (p : Int) < 31 := by omega
  have i2 : p < 31 := by omega
  have hnm := fun (wr : World) => (names_has wr).mono fun e w' ⟨h1, h2, h3, h4⟩ => And.intro h1 (And.intro h2 (And.intro h3 (hp ▸ h4 o o4 o3)))
  clear hp
  go_wp2_with fail
  go_region_with ((go_at_call 32; refine (hnm _).mono ?_; rintro e w2 ⟨rfl, hx, hs, hc⟩; have z0 := (st0.drew.below hx).c0; replace hc : w2.cell? ⟨w1.heap.size, p, none⟩ = some (.string (st (name o))) := hc))
  all_goals
    replace st0 := st0.drew.below hx
    replace bV := (Below.drew bV).trans (hx.mono (Below.drew bV).size)
    clear z0 hc hs hx hnm iw iv iu i0 i1 i2 k0 k1 k2 k3 k4
    obtain ⟨k0, k1, k2, k3, k4⟩ := id st0
    go_wp2_with fail
    refine (hfo _).mono ?_
    rintro e w3 ⟨rfl, rfl⟩
    clear hfo
    go_wp2_with fail
    go_quiet ((first | (go_at_call 33; exact quietA (rreg_any _ _ (by omega))) | (go_at_call 34; exact quietA (dec_txt _ _ (by omega) (by omega)))))
    go_wp2_with fail
    go_ret
    exact ⟨ret_str (by rw [HT.out]; simp only [q44, q32, q40, q41, st_app]; simp [jn]), below_drewN bV _⟩
set_option maxRecDepth 100000 in
set_option maxHeartbeats 4000000 in
theorem rtext_2 (x : Is.Ins) (hx : x.Ok) (w : World) (he : (Is.enc x).2 = 0) (e1 : (14 ≤ x.op ∧ x.op ≤ 18) ∨ (25 ≤ x.op ∧ x.op ≤ 28)) :
    Calls Tryd.prog 16 #[.agg (ic x)] w fun e w' => e = .returned (.string (st (txt x))) ∧ Below w.heap.size w w' := by
  obtain ⟨o, a, b, c, m⟩ := x
  simp only at e1
  have HT : Hid (txt ⟨o, a, b, c, m⟩ = name o ++ 32 :: jn [rt a, rt b, Lib.itoa m]) := Lib.hid (by unfold txt body; rw [if_neg (by rw [he]; simp), if_neg (by unfold Is.hasC; omega : ¬ Is.hasC o), if_neg (by omega : ¬ ((20 ≤ o ∧ o ≤ 24) ∨ o = 30)), if_pos (by unfold Is.hasB; omega : Is.hasB o)])
  have hen := renc_any ⟨o, a, b, c, m⟩ hx
  have hfo := fun wr => form_any o wr
  have hfk : form o = 2 := by
    have := form_is o
    unfold Is.isOp at this
    omega
  rw [hfk] at hfo
  clear hfk
  obtain ⟨ho, hr, hk⟩ := Is.enc_ok (x := ⟨o, a, b, c, m⟩) (w := (Is.enc ⟨o, a, b, c, m⟩).1) (by rw [← he])
  have hm : -1000000 < m ∧ m < 1000000 := by
    rcases hk with ⟨_, h, _⟩ | ⟨_, h, _⟩
    · simp only at h; omega
    · rcases h with ⟨_, _, _⟩ | ⟨_, _, _⟩ <;> simp only at * <;> omega
  have hrr := regs_le hr
  obtain ⟨ra, rb, rc, _⟩ := hrr
  simp only at ra rb rc
  obtain ⟨V, hV⟩ : ∃ V, V = w.alloc (Obj.cells (ic ⟨o, a, b, c, m⟩) 23) := ⟨_, rfl⟩
  have st0 : At V w.heap.size ⟨o, a, b, c, m⟩ := by rw [hV]; exact at_new _ _ _
  have bV : Below w.heap.size w V := by rw [hV]; exact grow _ _
  obtain ⟨k0, k1, k2, k3, k4⟩ := at_new w ⟨o, a, b, c, m⟩ 23
  have HV := Lib.hid hV
  rw [he] at hen
  obtain ⟨v, hv⟩ : ∃ v, v = (Is.enc ⟨o, a, b, c, m⟩).1 := ⟨_, rfl⟩
  rw [← hv] at hen
  have o3 : o < 32 := by have := ho.2; simp only at this; omega
  have o4 : 1 ≤ o := by have := ho.1; simp only at this; omega
  clear hV hv he hk hr ho hx e1
  have o1 : (o : Int) ≤ 31 := by omega
  have o2 : 1 ≤ (o : Int) := by omega
  go_enter Tryd.func16, Tryd.ntmps16
  go_wp2_with fail
  change Calls _ _ #[.agg (ic ⟨o, a, b, c, m⟩)] (w.alloc (Obj.cells (ic ⟨o, a, b, c, m⟩) 23)) _
  rw [← HV.out]
  clear k0 k1 k2 k3 k4
  refine (hen _).mono ?_
  rintro e w1 ⟨rfl, hb⟩
  replace st0 := st0.below hb
  replace bV := bV.trans (hb.mono bV.size)
  clear hb HV
  obtain ⟨k0, k1, k2, k3, k4⟩ := id st0
  have ln := name_len o o3
  have la := rt_len a (by omega)
  have lb := rt_len b (by omega)
  have lc := rt_len c (by omega)
  have lm := itoa_len m hm.1 hm.2
  have lsm : (st (Lib.itoa m)).size ≤ 8 := by rw [st_size]; exact lm
  have lsa : (st (rt a)).size ≤ 4 := by rw [st_size]; exact la
  have lsb : (st (rt b)).size ≤ 4 := by rw [st_size]; exact lb
  have lsc : (st (rt c)).size ≤ 4 := by rw [st_size]; exact lc
  have lsn : (st (name o)).size ≤ 4 := by rw [st_size]; exact ln
  obtain ⟨p, hp⟩ : ∃ p, p = o - 1 := ⟨_, rfl⟩
  have iw : IntKind.u8.wrap (p : Int) = (p : Int) := by simp only [IntKind.wrap, IntKind.signed, IntKind.bits]; simp; omega
  have iv : (p : Int) % 256 = (p : Int) := by omega
  have iu : (o : Int) - 1 = (p : Int) := by omega
  have i0 : (0 : Int) ≤ (p : Int) := by omega
  have i1 : (p : Int) < 31 := by omega
  have i2 : p < 31 := by omega
  have hnm := fun (wr : World) => (names_has wr).mono fun e w' ⟨h1, h2, h3, h4⟩ => And.intro h1 (And.intro h2 (And.intro h3 (hp ▸ h4 o o4 o3)))
  clear hp
  go_wp2_with fail
  go_region_with ((go_at_call 32; refine (hnm _).mono ?_; rintro e w2 ⟨rfl, hx, hs, hc⟩; have z0 := (st0.drew.below hx).c0; replace hc : w2.cell? ⟨w1.heap.size, p, none⟩ = some (.string (st (name o))) := hc))
  all_goals
    replace st0 := st0.drew.below hx
    replace bV := (Below.drew bV).trans (hx.mono (Below.drew bV).size)
    clear z0 hc hs hx hnm iw iv iu i0 i1 i2 k0 k1 k2 k3 k4
    obtain ⟨k0, k1, k2, k3, k4⟩ := id st0
    go_wp2_with fail
    refine (hfo _).mono ?_
    rintro e w3 ⟨rfl, rfl⟩
    clear hfo
    go_wp2_with fail
    go_quiet ((first | (go_at_call 33; exact quietA (rreg_any _ _ (by omega))) | (go_at_call 34; exact quietA (dec_txt _ _ (by omega) (by omega)))))
    go_wp2_with fail
    go_ret
    exact ⟨ret_str (by rw [HT.out]; simp only [q44, q32, q40, q41, st_app]; simp [jn]), below_drewN bV _⟩
set_option maxRecDepth 100000 in
set_option maxHeartbeats 4000000 in
theorem rtext_3 (x : Is.Ins) (hx : x.Ok) (w : World) (he : (Is.enc x).2 = 0) (e1 : x.op = 19 ∨ x.op = 29) :
    Calls Tryd.prog 16 #[.agg (ic x)] w fun e w' => e = .returned (.string (st (txt x))) ∧ Below w.heap.size w w' := by
  obtain ⟨o, a, b, c, m⟩ := x
  simp only at e1
  have HT : Hid (txt ⟨o, a, b, c, m⟩ = name o ++ 32 :: jn [rt a, Lib.itoa m]) := Lib.hid (by unfold txt body; rw [if_neg (by rw [he]; simp), if_neg (by unfold Is.hasC; omega : ¬ Is.hasC o), if_neg (by omega : ¬ ((20 ≤ o ∧ o ≤ 24) ∨ o = 30)), if_neg (by unfold Is.hasB; omega : ¬ Is.hasB o), if_pos (by unfold Is.hasA; omega : Is.hasA o)])
  have hen := renc_any ⟨o, a, b, c, m⟩ hx
  have hfo := fun wr => form_any o wr
  have hfk : form o = 3 := by
    have := form_is o
    unfold Is.isOp at this
    omega
  rw [hfk] at hfo
  clear hfk
  obtain ⟨ho, hr, hk⟩ := Is.enc_ok (x := ⟨o, a, b, c, m⟩) (w := (Is.enc ⟨o, a, b, c, m⟩).1) (by rw [← he])
  have hm : -1000000 < m ∧ m < 1000000 := by
    rcases hk with ⟨_, h, _⟩ | ⟨_, h, _⟩
    · simp only at h; omega
    · rcases h with ⟨_, _, _⟩ | ⟨_, _, _⟩ <;> simp only at * <;> omega
  have hrr := regs_le hr
  obtain ⟨ra, rb, rc, _⟩ := hrr
  simp only at ra rb rc
  obtain ⟨V, hV⟩ : ∃ V, V = w.alloc (Obj.cells (ic ⟨o, a, b, c, m⟩) 23) := ⟨_, rfl⟩
  have st0 : At V w.heap.size ⟨o, a, b, c, m⟩ := by rw [hV]; exact at_new _ _ _
  have bV : Below w.heap.size w V := by rw [hV]; exact grow _ _
  obtain ⟨k0, k1, k2, k3, k4⟩ := at_new w ⟨o, a, b, c, m⟩ 23
  have HV := Lib.hid hV
  rw [he] at hen
  obtain ⟨v, hv⟩ : ∃ v, v = (Is.enc ⟨o, a, b, c, m⟩).1 := ⟨_, rfl⟩
  rw [← hv] at hen
  have o3 : o < 32 := by have := ho.2; simp only at this; omega
  have o4 : 1 ≤ o := by have := ho.1; simp only at this; omega
  clear hV hv he hk hr ho hx e1
  have o1 : (o : Int) ≤ 31 := by omega
  have o2 : 1 ≤ (o : Int) := by omega
  go_enter Tryd.func16, Tryd.ntmps16
  go_wp2_with fail
  change Calls _ _ #[.agg (ic ⟨o, a, b, c, m⟩)] (w.alloc (Obj.cells (ic ⟨o, a, b, c, m⟩) 23)) _
  rw [← HV.out]
  clear k0 k1 k2 k3 k4
  refine (hen _).mono ?_
  rintro e w1 ⟨rfl, hb⟩
  replace st0 := st0.below hb
  replace bV := bV.trans (hb.mono bV.size)
  clear hb HV
  obtain ⟨k0, k1, k2, k3, k4⟩ := id st0
  have ln := name_len o o3
  have la := rt_len a (by omega)
  have lb := rt_len b (by omega)
  have lc := rt_len c (by omega)
  have lm := itoa_len m hm.1 hm.2
  have lsm : (st (Lib.itoa m)).size ≤ 8 := by rw [st_size]; exact lm
  have lsa : (st (rt a)).size ≤ 4 := by rw [st_size]; exact la
  have lsb : (st (rt b)).size ≤ 4 := by rw [st_size]; exact lb
  have lsc : (st (rt c)).size ≤ 4 := by rw [st_size]; exact lc
  have lsn : (st (name o)).size ≤ 4 := by rw [st_size]; exact ln
  obtain ⟨p, hp⟩ : ∃ p, p = o - 1 := ⟨_, rfl⟩
  have iw : IntKind.u8.wrap (p : Int) = (p : Int) := by simp only [IntKind.wrap, IntKind.signed, IntKind.bits]; simp; omega
  have iv : (p : Int) % 256 = (p : Int) := by omega
  have iu : (o : Int) - 1 = (p : Int) := by omega
  have i0 : (0 : Int) ≤ (p : Int) := by omega
  have i1 : (p : Int) < 31 := by omega
  have i2 : p < 31 := by omega
  have hnm := fun (wr : World) => (names_has wr).mono fun e w' ⟨h1, h2, h3, h4⟩ => And.intro h1 (And.intro h2 (And.intro h3 (hp ▸ h4 o o4 o3)))
  clear hp
  go_wp2_with fail
  go_region_with ((go_at_call 32; refine (hnm _).mono ?_; rintro e w2 ⟨rfl, hx, hs, hc⟩; have z0 := (st0.drew.below hx).c0; replace hc : w2.cell? ⟨w1.heap.size, p, none⟩ = some (.string (st (name o))) := hc))
  all_goals
    replace st0 := st0.drew.below hx
    replace bV := (Below.drew bV).trans (hx.mono (Below.drew bV).size)
    clear z0 hc hs hx hnm iw iv iu i0 i1 i2 k0 k1 k2 k3 k4
    obtain ⟨k0, k1, k2, k3, k4⟩ := id st0
    go_wp2_with fail
    refine (hfo _).mono ?_
    rintro e w3 ⟨rfl, rfl⟩
    clear hfo
    go_wp2_with fail
    go_quiet ((first | (go_at_call 33; exact quietA (rreg_any _ _ (by omega))) | (go_at_call 34; exact quietA (dec_txt _ _ (by omega) (by omega)))))
    go_wp2_with fail
    go_ret
    exact ⟨ret_str (by rw [HT.out]; simp only [q44, q32, q40, q41, st_app]; simp [jn]), below_drewN bV _⟩
set_option maxRecDepth 100000 in
set_option maxHeartbeats 4000000 in
theorem rtext_4 (x : Is.Ins) (hx : x.Ok) (w : World) (he : (Is.enc x).2 = 0) (e1 : (20 ≤ x.op ∧ x.op ≤ 24) ∨ x.op = 30) :
    Calls Tryd.prog 16 #[.agg (ic x)] w fun e w' => e = .returned (.string (st (txt x))) ∧ Below w.heap.size w w' := by
  obtain ⟨o, a, b, c, m⟩ := x
  simp only at e1
  have HT : Hid (txt ⟨o, a, b, c, m⟩ = name o ++ 32 :: jn [rt a, Lib.itoa m ++ 40 :: (rt b ++ [41])]) := Lib.hid (by unfold txt body; rw [if_neg (by rw [he]; simp), if_neg (by unfold Is.hasC; omega : ¬ Is.hasC o), if_pos (by omega : (20 ≤ o ∧ o ≤ 24) ∨ o = 30)])
  have hen := renc_any ⟨o, a, b, c, m⟩ hx
  have hfo := fun wr => form_any o wr
  have hfk : form o = 4 := by
    have := form_is o
    unfold Is.isOp at this
    omega
  rw [hfk] at hfo
  clear hfk
  obtain ⟨ho, hr, hk⟩ := Is.enc_ok (x := ⟨o, a, b, c, m⟩) (w := (Is.enc ⟨o, a, b, c, m⟩).1) (by rw [← he])
  have hm : -1000000 < m ∧ m < 1000000 := by
    rcases hk with ⟨_, h, _⟩ | ⟨_, h, _⟩
    · simp only at h; omega
    · rcases h with ⟨_, _, _⟩ | ⟨_, _, _⟩ <;> simp only at * <;> omega
  have hrr := regs_le hr
  obtain ⟨ra, rb, rc, _⟩ := hrr
  simp only at ra rb rc
  obtain ⟨V, hV⟩ : ∃ V, V = w.alloc (Obj.cells (ic ⟨o, a, b, c, m⟩) 23) := ⟨_, rfl⟩
  have st0 : At V w.heap.size ⟨o, a, b, c, m⟩ := by rw [hV]; exact at_new _ _ _
  have bV : Below w.heap.size w V := by rw [hV]; exact grow _ _
  obtain ⟨k0, k1, k2, k3, k4⟩ := at_new w ⟨o, a, b, c, m⟩ 23
  have HV := Lib.hid hV
  rw [he] at hen
  obtain ⟨v, hv⟩ : ∃ v, v = (Is.enc ⟨o, a, b, c, m⟩).1 := ⟨_, rfl⟩
  rw [← hv] at hen
  have o3 : o < 32 := by have := ho.2; simp only at this; omega
  have o4 : 1 ≤ o := by have := ho.1; simp only at this; omega
  clear hV hv he hk hr ho hx e1
  have o1 : (o : Int) ≤ 31 := by omega
  have o2 : 1 ≤ (o : Int) := by omega
  go_enter Tryd.func16, Tryd.ntmps16
  go_wp2_with fail
  change Calls _ _ #[.agg (ic ⟨o, a, b, c, m⟩)] (w.alloc (Obj.cells (ic ⟨o, a, b, c, m⟩) 23)) _
  rw [← HV.out]
  clear k0 k1 k2 k3 k4
  refine (hen _).mono ?_
  rintro e w1 ⟨rfl, hb⟩
  replace st0 := st0.below hb
  replace bV := bV.trans (hb.mono bV.size)
  clear hb HV
  obtain ⟨k0, k1, k2, k3, k4⟩ := id st0
  have ln := name_len o o3
  have la := rt_len a (by omega)
  have lb := rt_len b (by omega)
  have lc := rt_len c (by omega)
  have lm := itoa_len m hm.1 hm.2
  have lsm : (st (Lib.itoa m)).size ≤ 8 := by rw [st_size]; exact lm
  have lsa : (st (rt a)).size ≤ 4 := by rw [st_size]; exact la
  have lsb : (st (rt b)).size ≤ 4 := by rw [st_size]; exact lb
  have lsc : (st (rt c)).size ≤ 4 := by rw [st_size]; exact lc
  have lsn : (st (name o)).size ≤ 4 := by rw [st_size]; exact ln
  obtain ⟨p, hp⟩ : ∃ p, p = o - 1 := ⟨_, rfl⟩
  have iw : IntKind.u8.wrap (p : Int) = (p : Int) := by simp only [IntKind.wrap, IntKind.signed, IntKind.bits]; simp; omega
  have iv : (p : Int) % 256 = (p : Int) := by omega
  have iu : (o : Int) - 1 = (p : Int) := by omega
  have i0 : (0 : Int) ≤ (p : Int) := by omega
  have i1 : (p : Int) < 31 := by omega
  have i2 : p < 31 := by omega
  have hnm := fun (wr : World) => (names_has wr).mono fun e w' ⟨h1, h2, h3, h4⟩ => And.intro h1 (And.intro h2 (And.intro h3 (hp ▸ h4 o o4 o3)))
  clear hp
  go_wp2_with fail
  go_region_with ((go_at_call 32; refine (hnm _).mono ?_; rintro e w2 ⟨rfl, hx, hs, hc⟩; have z0 := (st0.drew.below hx).c0; replace hc : w2.cell? ⟨w1.heap.size, p, none⟩ = some (.string (st (name o))) := hc))
  all_goals
    replace st0 := st0.drew.below hx
    replace bV := (Below.drew bV).trans (hx.mono (Below.drew bV).size)
    clear z0 hc hs hx hnm iw iv iu i0 i1 i2 k0 k1 k2 k3 k4
    obtain ⟨k0, k1, k2, k3, k4⟩ := id st0
    go_wp2_with fail
    refine (hfo _).mono ?_
    rintro e w3 ⟨rfl, rfl⟩
    clear hfo
    go_wp2_with fail
    go_quiet ((first | (go_at_call 33; exact quietA (rreg_any _ _ (by omega))) | (go_at_call 34; exact quietA (dec_txt _ _ (by omega) (by omega)))))
    go_wp2_with fail
    go_ret
    exact ⟨ret_str (by rw [HT.out]; simp only [q44, q32, q40, q41, st_app]; simp [jn]), below_drewN bV _⟩
set_option maxRecDepth 100000 in
set_option maxHeartbeats 4000000 in
theorem rtext_5 (x : Is.Ins) (hx : x.Ok) (w : World) (he : (Is.enc x).2 = 0) (e1 : x.op = 31) :
    Calls Tryd.prog 16 #[.agg (ic x)] w fun e w' => e = .returned (.string (st (txt x))) ∧ Below w.heap.size w w' := by
  obtain ⟨o, a, b, c, m⟩ := x
  simp only at e1
  have HT : Hid (txt ⟨o, a, b, c, m⟩ = name o ++ 32 :: jn [Lib.itoa m]) := Lib.hid (by unfold txt body; rw [if_neg (by rw [he]; simp), if_neg (by unfold Is.hasC; omega : ¬ Is.hasC o), if_neg (by omega : ¬ ((20 ≤ o ∧ o ≤ 24) ∨ o = 30)), if_neg (by unfold Is.hasB; omega : ¬ Is.hasB o), if_neg (by unfold Is.hasA; omega : ¬ Is.hasA o)])
  have hen := renc_any ⟨o, a, b, c, m⟩ hx
  have hfo := fun wr => form_any o wr
  have hfk : form o = 5 := by
    have := form_is o
    unfold Is.isOp at this
    omega
  rw [hfk] at hfo
  clear hfk
  obtain ⟨ho, hr, hk⟩ := Is.enc_ok (x := ⟨o, a, b, c, m⟩) (w := (Is.enc ⟨o, a, b, c, m⟩).1) (by rw [← he])
  have hm : -1000000 < m ∧ m < 1000000 := by
    rcases hk with ⟨_, h, _⟩ | ⟨_, h, _⟩
    · simp only at h; omega
    · rcases h with ⟨_, _, _⟩ | ⟨_, _, _⟩ <;> simp only at * <;> omega
  have hrr := regs_le hr
  obtain ⟨ra, rb, rc, _⟩ := hrr
  simp only at ra rb rc
  obtain ⟨V, hV⟩ : ∃ V, V = w.alloc (Obj.cells (ic ⟨o, a, b, c, m⟩) 23) := ⟨_, rfl⟩
  have st0 : At V w.heap.size ⟨o, a, b, c, m⟩ := by rw [hV]; exact at_new _ _ _
  have bV : Below w.heap.size w V := by rw [hV]; exact grow _ _
  obtain ⟨k0, k1, k2, k3, k4⟩ := at_new w ⟨o, a, b, c, m⟩ 23
  have HV := Lib.hid hV
  rw [he] at hen
  obtain ⟨v, hv⟩ : ∃ v, v = (Is.enc ⟨o, a, b, c, m⟩).1 := ⟨_, rfl⟩
  rw [← hv] at hen
  have o3 : o < 32 := by have := ho.2; simp only at this; omega
  have o4 : 1 ≤ o := by have := ho.1; simp only at this; omega
  clear hV hv he hk hr ho hx e1
  have o1 : (o : Int) ≤ 31 := by omega
  have o2 : 1 ≤ (o : Int) := by omega
  go_enter Tryd.func16, Tryd.ntmps16
  go_wp2_with fail
  change Calls _ _ #[.agg (ic ⟨o, a, b, c, m⟩)] (w.alloc (Obj.cells (ic ⟨o, a, b, c, m⟩) 23)) _
  rw [← HV.out]
  clear k0 k1 k2 k3 k4
  refine (hen _).mono ?_
  rintro e w1 ⟨rfl, hb⟩
  replace st0 := st0.below hb
  replace bV := bV.trans (hb.mono bV.size)
  clear hb HV
  obtain ⟨k0, k1, k2, k3, k4⟩ := id st0
  have ln := name_len o o3
  have la := rt_len a (by omega)
  have lb := rt_len b (by omega)
  have lc := rt_len c (by omega)
  have lm := itoa_len m hm.1 hm.2
  have lsm : (st (Lib.itoa m)).size ≤ 8 := by rw [st_size]; exact lm
  have lsa : (st (rt a)).size ≤ 4 := by rw [st_size]; exact la
  have lsb : (st (rt b)).size ≤ 4 := by rw [st_size]; exact lb
  have lsc : (st (rt c)).size ≤ 4 := by rw [st_size]; exact lc
  have lsn : (st (name o)).size ≤ 4 := by rw [st_size]; exact ln
  obtain ⟨p, hp⟩ : ∃ p, p = o - 1 := ⟨_, rfl⟩
  have iw : IntKind.u8.wrap (p : Int) = (p : Int) := by simp only [IntKind.wrap, IntKind.signed, IntKind.bits]; simp; omega
  have iv : (p : Int) % 256 = (p : Int) := by omega
  have iu : (o : Int) - 1 = (p : Int) := by omega
  have i0 : (0 : Int) ≤ (p : Int) := by omega
  have i1 : (p : Int) < 31 := by omega
  have i2 : p < 31 := by omega
  have hnm := fun (wr : World) => (names_has wr).mono fun e w' ⟨h1, h2, h3, h4⟩ => And.intro h1 (And.intro h2 (And.intro h3 (hp ▸ h4 o o4 o3)))
  clear hp
  go_wp2_with fail
  go_region_with ((go_at_call 32; refine (hnm _).mono ?_; rintro e w2 ⟨rfl, hx, hs, hc⟩; have z0 := (st0.drew.below hx).c0; replace hc : w2.cell? ⟨w1.heap.size, p, none⟩ = some (.string (st (name o))) := hc))
  all_goals
    replace st0 := st0.drew.below hx
    replace bV := (Below.drew bV).trans (hx.mono (Below.drew bV).size)
    clear z0 hc hs hx hnm iw iv iu i0 i1 i2 k0 k1 k2 k3 k4
    obtain ⟨k0, k1, k2, k3, k4⟩ := id st0
    go_wp2_with fail
    refine (hfo _).mono ?_
    rintro e w3 ⟨rfl, rfl⟩
    clear hfo
    go_wp2_with fail
    refine (dec_txt _ _ hm.1 hm.2).mono ?_
    rintro e w9 ⟨rfl, rfl⟩
    go_wp2_with fail
    go_ret
    exact ⟨ret_str (by rw [HT.out]; simp only [q44, q32, q40, q41, st_app]; simp [jn]), bV⟩
end Go.Proofs.YtmafeekhbcpomaaDoor
