/-
  Arguments of the laws of sessions, opened.
-/
import Derived.Test.YtaoaebdjinlcnaaDoorVg
import Derived.OpenShut
import Derived.ProofKit
namespace Go.Proofs.YtaoaebdjinlcnaaDoor
set_option linter.unusedVariables false
set_option linter.unusedSimpArgs false
set_option maxRecDepth 100000
open Go.RowKit
/-- the argument's box, the answer's, and that of none -/
structure Sz (w : World) (c : Ch) (gz : Nat) (V : World) : Prop where
  v : Sv w c V
  z : Cb V gz zCh
theorem Sz.below {w V W : World} {c : Ch} {gz : Nat} (h : Sz w c gz V) (b : Below V.heap.size V W) : Sz w c gz W := ⟨h.v.below b, h.z.below b⟩
theorem Sz.drew {w V : World} {c : Ch} {gz : Nat} (h : Sz w c gz V) : Sz w c gz V.drew := ⟨h.v.drew, h.z.drew⟩
theorem Sz.row {w V : World} {c : Ch} {gz g : Nat} (h : Sz w c gz V) (hg : w.heap.size + 2 ≤ g) (hz : gz ≠ g) (cs : Array Value) : Sz w c gz (V.setRow g cs) := ⟨h.v.row hg cs, h.z.rowOther cs hz⟩
/-- what is held behind the loop -/
structure S20 (w : World) (c : Ch) (gz gk g D : Nat) (K : List Nat) (x : ByteArray) (V : World) : Prop where
  v : Sz w c gz V
  y : Own V gk 24 (vs .u8 K)
  x : V.cell? ⟨g, D, none⟩ = some (.string x)
theorem S20.below {w V W : World} {c : Ch} {gz gk g D : Nat} {K : List Nat} {x : ByteArray} (h : S20 w c gz gk g D K x V) (b : Below V.heap.size V W) : S20 w c gz gk g D K x W :=
  ⟨h.v.below b, Below.own b h.y h.y.lt, cell_below h.x b⟩
theorem S20.drew {w V : World} {c : Ch} {gz gk g D : Nat} {K : List Nat} {x : ByteArray} (h : S20 w c gz gk g D K x V) : S20 w c gz gk g D K x V.drew := ⟨h.v.drew, h.y.drew, h.x⟩
theorem S20.set {w V : World} {c : Ch} {gz gk g D : Nat} {K : List Nat} {x : ByteArray} (h : S20 w c gz gk g D K x V) (hk : w.heap.size + 2 ≤ gk) (hz : gz ≠ gk) (hg : g ≠ gk) (K' : List Nat) : S20 w c gz gk g D K' x (V.setRow gk (vs .u8 K')) :=
  ⟨h.v.row hk hz _, h.y.row _, (World.cell?_of_block (heap_setRow _ _ _ _ hg)).trans h.x⟩
set_option maxHeartbeats 4000000 in
theorem rstake_any (c : Ch) (f : ByteArray) (w : World) (hc : c.Ok) (hm : c.m.size ≤ 1000) (hf : f.size ≤ 10000) :
    Calls Tryd.prog 19 #[.agg (chv c), .string f] w fun e w' => e = .returned (rsv (takeR c f)) ∧ Below w.heap.size w w' := by
  have st0 := Sv.new w c hc.k
  have lK := hc.k
  have bK := hc.b
  have hcn := hc.n
  go_enter Tryd.func19, Tryd.ntmps19
  go_upto_region 1 with fail
  change Code.wp _ _ _ _ ((w.alloc (Obj.cells (chv c) 26)).alloc (Obj.cells (chv zCh) 26))
  generalize (w.alloc (Obj.cells (chv c) 26)).alloc (Obj.cells (chv zCh) 26) = W0 at *
  have hlt0 := st0.lt
  have hg0 := grow W0 (Obj.cells (chv zCh) 26)
  have stz : Sz w c W0.heap.size ((W0.alloc (Obj.cells (chv zCh) 26)).setRow W0.heap.size (chv zCh)) := ⟨(st0.below hg0).row hlt0 _, (Cb.new W0 zCh zCh_ok.k).row zCh zCh_ok.k⟩
  go_wp2_with (first | refine bld26z rfl rfl ?_ | refine sto26 (d := zCh) (c := zCh) zCh_ok.k rfl rfl rfl rfl (Cb.new W0 zCh zCh_ok.k) ?_)
  change Calls _ _ _ ((W0.alloc (Obj.cells (chv zCh) 26)).setRow W0.heap.size (chv zCh)) _
  clear hg0 st0
  generalize (W0.alloc (Obj.cells (chv zCh) 26)).setRow W0.heap.size (chv zCh) = Wz at *
  generalize W0.heap.size = gz at *
  refine (Un.Nm.rtexts_any f Wz (by omega)).mono ?_
  rintro e W1 ⟨A, cp, l, rfl, hts, hl, hx⟩
  have st := stz.below hx
  clear hx stz
  by_cases he : (Nu.texts (Un.Nm.toL f)).2 = 0
  · have HL := Lib.hid (takeR_eq (c := c) hl he)
    have hps := piece_size hl he
    rw [he]
    clear hl he
    by_cases h3 : l.length = 3
    · obtain ⟨a, b, x, rfl⟩ := len_three h3
      obtain ⟨g, off, rfl, hcell⟩ := hts.2 (by simp)
      have ca : W1.cell? ⟨g, off, none⟩ = some (.string a) := hcell 0 (by simp)
      have cb : W1.cell? ⟨g, off + 1, none⟩ = some (.string b) := hcell 1 (by simp)
      have cx : W1.cell? ⟨g, off + 2, none⟩ = some (.string x) := hcell 2 (by simp)
      have hxz : x.size ≤ 10000 := Nat.le_trans (hps x (by simp)) hf
      clear hcell hts h3 hps
      dsimp only [List.length_cons, List.length_nil]
      by_cases h8 : b.size = 8
      · have h8' : (b.size : Int) = 8 := by omega
        have hge := fun W => Un.Nm.rget_any b W (by omega)
        have hlow : Un.Nm.low b = Un.Nm.toL b := by unfold Un.Nm.low; rw [List.take_of_length_le (by rw [Un.Nm.toL_length]; omega)]
        rw [hlow] at hge
        have hnl := Nu.getB_lt (Un.Nm.toL b)
        rw [Un.Nm.toL_length, h8] at hnl
        have HL2 := Lib.hid (show takeL c [a, b, x] = if a = c.m then take2 c (Nu.getB (Un.Nm.toL b)) x else bad 7 from if_pos h8)
        generalize Nu.getB (Un.Nm.toL b) = n at *
        clear hlow h8
        have hn64 : n < 18446744073709551616 := by simpa using hnl
        clear hnl
        go_upto_region 7 with fail
        clear h8'
        by_cases ha : a = c.m
        · have ha' := str_yes ha
          have HL3 := Lib.hid (HL.out.trans (HL2.out.trans (if_pos ha)))
          clear ha
          refine wp_region_held_drew (S := fun V => Sz w c gz V ∧ V.cell? ⟨g, off, none⟩ = some (.string a) ∧ V.cell? ⟨g, off + 1, none⟩ = some (.string b) ∧ V.cell? ⟨g, off + 2, none⟩ = some (.string x)) (by kernel_rfl) ⟨st.drew, ca, cb, cx⟩ (fun hHeld => ?_)
          clear st ca cx cb
          generalize W1.drew = V0 at *
          refine wpAnyH_take (i := 0) (oi := { dst := some 36, op := Op.move (Operand.tmp 8), type := _, pos := _, after := _, guard := _ }) (v := ?_) rfl (by kernel_rfl) (by kernel_rfl) (by kernel_rfl) (fun _ _ _ h => h) (Or.inl ⟨by rfl, ?_⟩) hHeld ?_
          rotate_left
          · intro wq hSw
            go_simp
            rfl
          try simp only [Act.put, List.setIfInBounds_toArray, List.set_cons_zero, List.set_cons_succ]
          refine wpAnyH_take (i := 1) (oi := { dst := some 37, op := Op.indexAddr 36 (Operand.tmp 36) (Operand.const (Value.int IntKind.i64 0)), type := _, pos := _, after := _, guard := _ }) (v := ?_) rfl (by kernel_rfl) (by kernel_rfl) (by kernel_rfl) (fun _ _ _ h => h) (Or.inl ⟨by rfl, ?_⟩) hHeld ?_
          rotate_left
          · intro wq hSw
            go_simp
            rfl
          try simp only [Act.put, List.setIfInBounds_toArray, List.set_cons_zero, List.set_cons_succ]
          refine wpAnyH_take (i := 2) (oi := { dst := some 38, op := Op.load 9 (Operand.tmp 37), type := _, pos := _, after := _, guard := _ }) (v := ?_) rfl (by kernel_rfl) (by kernel_rfl) (by kernel_rfl) (fun _ _ _ h => h) (Or.inl ⟨by rfl, ?_⟩) hHeld ?_
          rotate_left
          · intro wq hSw
            have ca := hSw.2.1
            go_simp
            rfl
          try simp only [Act.put, List.setIfInBounds_toArray, List.set_cons_zero, List.set_cons_succ]
          refine wpAnyH_take (i := 3) (oi := { dst := some 39, op := Op.fieldAddr 26 (Operand.tmp 2) 0, type := _, pos := _, after := _, guard := _ }) (v := ?_) rfl (by kernel_rfl) (by kernel_rfl) (by kernel_rfl) (fun _ _ _ h => h) (Or.inl ⟨by rfl, ?_⟩) hHeld ?_
          rotate_left
          · intro wq hSw
            go_simp
            rfl
          try simp only [Act.put, List.setIfInBounds_toArray, List.set_cons_zero, List.set_cons_succ]
          refine wpAnyH_take (i := 4) (oi := { dst := some 40, op := Op.load 9 (Operand.tmp 39), type := _, pos := _, after := _, guard := _ }) (v := ?_) rfl (by kernel_rfl) (by kernel_rfl) (by kernel_rfl) (fun _ _ _ h => h) (Or.inl ⟨by rfl, ?_⟩) hHeld ?_
          rotate_left
          · intro wq hSw
            have c0 := hSw.1.v.a.c0
            go_simp
            rfl
          try simp only [Act.put, List.setIfInBounds_toArray, List.set_cons_zero, List.set_cons_succ]
          refine wpAnyH_take (i := 5) (oi := { dst := some 41, op := Op.binOp BinOp.neq 9 (Operand.tmp 38) (Operand.tmp 40) 9, type := _, pos := _, after := _, guard := _ }) (v := ?_) rfl (by kernel_rfl) (by kernel_rfl) (by kernel_rfl) (fun _ _ _ h => h) (Or.inl ⟨by rfl, ?_⟩) hHeld ?_
          rotate_left
          · intro wq hSw
            go_simp
            rfl
          try simp only [Act.put, List.setIfInBounds_toArray, List.set_cons_zero, List.set_cons_succ]
          refine wpAnyH_done (by kernel_rfl) ?_ _
          have st3 := hHeld.1
          have cx := hHeld.2.2.2
          have cb := hHeld.2.2.1
          have c1 := st3.v.a.c1
          go_wp2_with fail
          refine (hge _).mono ?_
          rintro e V0' ⟨rfl, rfl⟩
          clear hge cb
          by_cases hlt : n < c.n
          · have hlt' : (n : Int) < (c.n : Int) := by omega
            have HR := Lib.hid (HL3.out.trans (show take2 c n x = bad 19 from if_pos hlt))
            go_wp2_with (first | refine ld26 rfl rfl rfl st3.z ?_ | refine sto26 (d := zCh) (c := zCh) zCh_ok.k rfl rfl rfl rfl st3.v.r ?_)
            exact res26 rfl rfl rfl rfl (st3.v.r.row zCh zCh_ok.k) rfl ⟨by rw [HR.out]; rfl, below_row st3.v.b (by omega) _⟩

          have hlt' : ¬ (n : Int) < (c.n : Int) := by omega
          have e2 : IntKind.u64.wrap ((n : Int) - (c.n : Int)) = ((n - c.n : Nat) : Int) := by rw [IntWalk.u64_in _ (by omega)]; omega
          by_cases hfar : 1000 < n - c.n
          · have hfar' : 1000 < ((n - c.n : Nat) : Int) := by omega
            have HR := Lib.hid (HL3.out.trans (show take2 c n x = bad 6 by unfold take2; rw [if_neg hlt, if_pos (.inl hfar)]))
            go_wp2_with (first | refine ld26 rfl rfl rfl st3.z ?_ | refine sto26 (d := zCh) (c := zCh) zCh_ok.k rfl rfl rfl rfl st3.v.r ?_)
            exact res26 rfl rfl rfl rfl (st3.v.r.row zCh zCh_ok.k) rfl ⟨by rw [HR.out]; rfl, below_row st3.v.b (by omega) _⟩

          by_cases hmax : n = 18446744073709551615
          · have hfar' : ¬ 1000 < ((n - c.n : Nat) : Int) := by omega
            have hmax' : ((n : Int) == 18446744073709551615) = true := by rw [beq_iff_eq]; omega
            have HR := Lib.hid (HL3.out.trans (show take2 c n x = bad 6 by unfold take2; rw [if_neg hlt, if_pos (.inr hmax)]))
            go_wp2_with (first | refine ld26 rfl rfl rfl st3.z ?_ | refine sto26 (d := zCh) (c := zCh) zCh_ok.k rfl rfl rfl rfl st3.v.r ?_)
            exact res26 rfl rfl rfl rfl (st3.v.r.row zCh zCh_ok.k) rfl ⟨by rw [HR.out]; rfl, below_row st3.v.b (by omega) _⟩

          have hfar' : ¬ 1000 < ((n - c.n : Nat) : Int) := by omega
          have hmax' : ((n : Int) == 18446744073709551615) = false := by rw [beq_eq_false_iff_ne]; omega
          have HR := Lib.hid (HL3.out.trans (show take2 c n x = take3 c n x by unfold take2; rw [if_neg hlt, if_neg (by omega)]))
          have hlK := fun x => it_len lK x
          have hgg : g < V0.heap.size := World.block_lt_of_cell? _ _ cx
          have hgz := st3.z.lt
          have hgw := st3.v.lt
          have hg4 := grow V0 (Obj.cells (vs .u8 c.K) 24)
          have s20 : S20 w c gz V0.heap.size g (off + 2) (it c.K 0) x (V0.alloc (Obj.cells (vs .u8 c.K) 24)) := ⟨st3.below hg4, Own.new _ _ _, cell_below cx hg4⟩
          have cy := s20.v.v.a.c1
          go_wp2_with (first | refine ldk rfl rfl rfl st3.v.a ?_ | refine sto_new t28 rfl rfl rfl rfl rfl (by simp) lK ?_)
          generalize V0.alloc (Obj.cells (vs .u8 c.K) 24) = V1 at *
          generalize V0.heap.size = gk at *
          clear hg4 cx c1 st3
          go_loopw [12] (fun i wr => ∃ j : Nat, j ≤ n - c.n ∧ i = .int .u64 ((c.n + j : Nat) : Int) ∧ S20 w c gz gk g (off + 2) (it c.K j) x wr) (fun i _ => n - (intOf i).toNat)
          case atStart => exact ⟨0, by omega, rfl, s20⟩
          case round =>
            clear s20 cy
            obtain ⟨j, hj, rfl, hs⟩ := hrel
            by_cases hjl : j < n - c.n
            · have hj' : ((c.n + j : Nat) : Int) < (n : Int) := by omega
              have e5 : IntKind.u64.wrap (((c.n + j : Nat) : Int) + 1) = ((c.n + (j + 1) : Nat) : Int) := by rw [IntWalk.u64_in _ (by omega)]; omega
              have lj := hlK j
              have hnxt := rnext_any (it c.K j) wr (it_by bK j) lj
              generalize hcn : c.n + j = i at *
              go_wp2_with (refine ld t28 rfl rfl rfl hs.y lj ?_)
              refine hnxt.mono ?_
              rintro e wr2 ⟨rfl, hx⟩
              have hs2 := hs.below hx
              have hs3 := hs2.set (by omega) (by omega) (by omega) (nxt (it c.K j))
              clear hx hs hnxt
              go_wp2_with (refine sto t28 rfl rfl rfl rfl hs2.y lj (keyed_len _ _) ?_)
              exact ⟨⟨j + 1, by omega, rfl, hs3⟩, by simp [intOf]; omega⟩
            · obtain rfl : j = n - c.n := by omega
              have hj' : ¬ ((c.n + (n - c.n) : Nat) : Int) < (n : Int) := by omega
              have hKl := hlK (n - c.n)
              have hKb := it_by bK (n - c.n)
              have hhs := headD_size c.m n (by omega)
              generalize hKd : it c.K (n - c.n) = Kd at *
              have hkey := fun wr => of43_any Kd ⟨#[115, 101, 110, 100]⟩ wr hKb hKl (by decide)
              rw [tn_send] at hkey
              have hhead := fun wr => rhead_any c.m n wr hn64 (by omega)
              obtain ⟨o1, o2, hO⟩ : ∃ o1 o2, openD (Bl.keyed Kd wS) (headD c.m n) x = (o1, o2) := ⟨_, _, rfl⟩
              have hop := fun wr => ropen_any (Bl.keyed Kd wS) (headD c.m n) x wr (keyed_by _ _) (keyed_len _ _) (by omega) hxz
              rw [hO] at hop
              have hnx := fun wr => rnext_any Kd wr hKb hKl
              have hO3 : openD (Bl.keyed (it c.K (n - c.n)) wS) (headD c.m n) x = (o1, o2) := by rw [hKd]; exact hO
              go_upto_region 19 with fail
              refine wp_region_held_drew (S := fun V => S20 w c gz gk g (off + 2) Kd x V) (by kernel_rfl) hs.drew (fun hHeld => ?_)
              clear hs
              generalize wr.drew = X0 at *
              refine wpAnyH_take (i := 0) (oi := { dst := some 74, op := Op.load 24 (Operand.tmp 11), type := _, pos := _, after := _, guard := _ }) rfl (by kernel_rfl) (by kernel_rfl) (by kernel_rfl) (fun _ _ _ h => h) (yl t28 (by rfl) _ rfl _ rfl (fun w1 h => h.y) hKl) hHeld ?_
              try simp only [Act.put, List.setIfInBounds_toArray, List.set_cons_zero, List.set_cons_succ]
              refine wpAnyH_take (i := 2) (oi := { dst := some 76, op := Op.fieldAddr 26 (Operand.tmp 2) 0, type := _, pos := _, after := _, guard := _ }) (v := ?_) rfl (by kernel_rfl) (by kernel_rfl) (by kernel_rfl) (fun _ _ _ h => h) (Or.inl ⟨by rfl, ?_⟩) hHeld ?_
              rotate_left
              · intro wq hSw
                go_simp
                rfl
              try simp only [Act.put, List.setIfInBounds_toArray, List.set_cons_zero, List.set_cons_succ]
              refine wpAnyH_take (i := 3) (oi := { dst := some 77, op := Op.load 9 (Operand.tmp 76), type := _, pos := _, after := _, guard := _ }) (v := ?_) rfl (by kernel_rfl) (by kernel_rfl) (by kernel_rfl) (fun _ _ _ h => h) (Or.inl ⟨by rfl, ?_⟩) hHeld ?_
              rotate_left
              · intro wq hSw
                have c0 := hSw.v.v.a.c0
                go_simp
                rfl
              try simp only [Act.put, List.setIfInBounds_toArray, List.set_cons_zero, List.set_cons_succ]
              refine wpAnyH_take (i := 4) (oi := { dst := some 78, op := Op.move (Operand.tmp 10), type := _, pos := _, after := _, guard := _ }) (v := ?_) rfl (by kernel_rfl) (by kernel_rfl) (by kernel_rfl) (fun _ _ _ h => h) (Or.inl ⟨by rfl, ?_⟩) hHeld ?_
              rotate_left
              · intro wq hSw
                go_simp
                rfl
              try simp only [Act.put, List.setIfInBounds_toArray, List.set_cons_zero, List.set_cons_succ]
              refine wpAnyH_take (i := 6) (oi := { dst := some 80, op := Op.move (Operand.tmp 8), type := _, pos := _, after := _, guard := _ }) (v := ?_) rfl (by kernel_rfl) (by kernel_rfl) (by kernel_rfl) (fun _ _ _ h => h) (Or.inl ⟨by rfl, ?_⟩) hHeld ?_
              rotate_left
              · intro wq hSw
                go_simp
                rfl
              try simp only [Act.put, List.setIfInBounds_toArray, List.set_cons_zero, List.set_cons_succ]
              refine wpAnyH_take (i := 7) (oi := { dst := some 81, op := Op.indexAddr 36 (Operand.tmp 80) (Operand.const (Value.int IntKind.i64 2)), type := _, pos := _, after := _, guard := _ }) (v := ?_) rfl (by kernel_rfl) (by kernel_rfl) (by kernel_rfl) (fun _ _ _ h => h) (Or.inl ⟨by rfl, ?_⟩) hHeld ?_
              rotate_left
              · intro wq hSw
                go_simp
                rfl
              try simp only [Act.put, List.setIfInBounds_toArray, List.set_cons_zero, List.set_cons_succ]
              refine wpAnyH_take (i := 8) (oi := { dst := some 82, op := Op.load 9 (Operand.tmp 81), type := _, pos := _, after := _, guard := _ }) (v := ?_) rfl (by kernel_rfl) (by kernel_rfl) (by kernel_rfl) (fun _ _ _ h => h) (Or.inl ⟨by rfl, ?_⟩) hHeld ?_
              rotate_left
              · intro wq hSw
                have cx := hSw.x
                go_simp
                rfl
              try simp only [Act.put, List.setIfInBounds_toArray, List.set_cons_zero, List.set_cons_succ]
              refine wpAnyH_ready (rs := [1]) (by kernel_rfl) (by simp) ?_
              refine AllReadyH.cons (o := { dst := some 75, op := Op.call { callee := Callee.value (Operand.func 24), args := #[Operand.tmp 74, Operand.const (Value.string { data := #[115, 101, 110, 100] })], argTypes := #[24, 9] }, type := _, pos := _, after := _, guard := _ }) rfl (fun KK hKK => ?_) AllReadyH.nil
              have hKS := Lib.hid hKK
              clear hKK
              go_simp
              refine (hkey _).mono ?_
              rintro e w1 ⟨rfl, hx⟩
              go_wp2_with fail
              refine hKS.out.out _ _ (hHeld.below hx) (fun hHeld => ?_)
              clear hKS KK hx
              try simp only [Act.put, List.setIfInBounds_toArray, List.set_cons_zero, List.set_cons_succ]
              refine wpAnyH_ready (rs := [5]) (by kernel_rfl) (by simp) ?_
              refine AllReadyH.cons (o := { dst := some 79, op := Op.call { callee := Callee.value (Operand.func 23), args := #[Operand.tmp 77, Operand.tmp 78], argTypes := #[9, 22] }, type := _, pos := _, after := _, guard := _ }) rfl (fun KK hKK => ?_) AllReadyH.nil
              have hKS := Lib.hid hKK
              clear hKK
              go_simp
              refine (hhead _).mono ?_
              rintro e w5 ⟨rfl, hx⟩
              go_wp2_with fail
              refine hKS.out.out _ _ (hHeld.below hx) (fun hHeld => ?_)
              clear hKS KK hx
              try simp only [Act.put, List.setIfInBounds_toArray, List.set_cons_zero, List.set_cons_succ]
              refine wpAnyH_ready (rs := [9]) (by kernel_rfl) (by simp) ?_
              refine AllReadyH.cons (o := { dst := some 83, op := Op.call { callee := Callee.value (Operand.func 43), args := #[Operand.tmp 75, Operand.tmp 79, Operand.tmp 82], argTypes := #[24, 9, 9] }, type := _, pos := _, after := _, guard := _ }) rfl (fun KK hKK => ?_) AllReadyH.nil
              have hKS := Lib.hid hKK
              clear hKK
              go_simp
              refine (hop _).mono ?_
              rintro e w9 ⟨rfl, hx⟩
              go_wp2_with fail
              refine hKS.out.out _ _ (hHeld.below hx) (fun hHeld => ?_)
              clear hKS KK hx
              try simp only [Act.put, List.setIfInBounds_toArray, List.set_cons_zero, List.set_cons_succ]
              refine wpAnyH_take (i := 10) (oi := { dst := some 73, op := Op.move (Operand.tmp 83), type := _, pos := _, after := _, guard := _ }) (v := ?_) rfl (by kernel_rfl) (by kernel_rfl) (by kernel_rfl) (fun _ _ _ h => h) (Or.inl ⟨by rfl, ?_⟩) hHeld ?_
              rotate_left
              · intro wq hSw
                go_simp
                rfl
              try simp only [Act.put, List.setIfInBounds_toArray, List.set_cons_zero, List.set_cons_succ]
              refine wpAnyH_take (i := 11) (oi := { dst := some 84, op := Op.extract (Operand.tmp 73) 0, type := _, pos := _, after := _, guard := _ }) (v := ?_) rfl (by kernel_rfl) (by kernel_rfl) (by kernel_rfl) (fun _ _ _ h => h) (Or.inl ⟨by rfl, ?_⟩) hHeld ?_
              rotate_left
              · intro wq hSw
                go_simp
                rfl
              try simp only [Act.put, List.setIfInBounds_toArray, List.set_cons_zero, List.set_cons_succ]
              refine wpAnyH_take (i := 12) (oi := { dst := some 85, op := Op.extract (Operand.tmp 73) 1, type := _, pos := _, after := _, guard := _ }) (v := ?_) rfl (by kernel_rfl) (by kernel_rfl) (by kernel_rfl) (fun _ _ _ h => h) (Or.inl ⟨by rfl, ?_⟩) hHeld ?_
              rotate_left
              · intro wq hSw
                go_simp
                rfl
              try simp only [Act.put, List.setIfInBounds_toArray, List.set_cons_zero, List.set_cons_succ]
              refine wpAnyH_take (i := 13) (oi := { dst := some 13, op := Op.assign (Operand.tmp 84), type := _, pos := _, after := _, guard := _ }) (v := ?_) rfl (by kernel_rfl) (by kernel_rfl) (by kernel_rfl) (fun _ _ _ h => h) (Or.inl ⟨by rfl, ?_⟩) hHeld ?_
              rotate_left
              · intro wq hSw
                go_simp
                rfl
              try simp only [Act.put, List.setIfInBounds_toArray, List.set_cons_zero, List.set_cons_succ]
              refine wpAnyH_take (i := 14) (oi := { dst := some 14, op := Op.assign (Operand.tmp 85), type := _, pos := _, after := _, guard := _ }) (v := ?_) rfl (by kernel_rfl) (by kernel_rfl) (by kernel_rfl) (fun _ _ _ h => h) (Or.inl ⟨by rfl, ?_⟩) hHeld ?_
              rotate_left
              · intro wq hSw
                go_simp
                rfl
              try simp only [Act.put, List.setIfInBounds_toArray, List.set_cons_zero, List.set_cons_succ]
              refine wpAnyH_done (by kernel_rfl) ?_ _
              clear hkey hhead hop
              have st7 := hHeld.v
              by_cases ho : o2 = 0
              · subst ho
                have HR2 := Lib.hid (HR.out.trans (take3_ok hO3 rfl))
                rw [hKd] at HR2
                clear hO3 hO hKd
                have e3 : IntKind.u64.wrap ((n : Int) + 1) = ((n + 1 : Nat) : Int) := by rw [IntWalk.u64_in _ (by omega)]; omega
                go_upto_region 22 with fail
                have oA := st7.v.r.drew
                refine wp_region_held_drew (S := fun V => Ab w c V ∧ Own V gk 24 (vs .u8 Kd)) (by kernel_rfl) ⟨⟨st7.v.a.drew, st7.v.b.drew⟩, hHeld.y.drew⟩ (fun hHeld => ?_)
                clear st7
                generalize w9.drew = Y0 at *
                refine wpAnyH_take (i := 0) (oi := { dst := some 90, op := Op.fieldAddr 26 (Operand.tmp 2) 0, type := _, pos := _, after := _, guard := _ }) (v := ?_) rfl (by kernel_rfl) (by kernel_rfl) (by kernel_rfl) (fun _ _ _ h => h) (Or.inl ⟨by rfl, ?_⟩) hHeld ?_
                rotate_left
                · intro wq hSw
                  go_simp
                  rfl
                try simp only [Act.put, List.setIfInBounds_toArray, List.set_cons_zero, List.set_cons_succ]
                refine wpAnyH_take (i := 1) (oi := { dst := some 91, op := Op.load 9 (Operand.tmp 90), type := _, pos := _, after := _, guard := _ }) (v := ?_) rfl (by kernel_rfl) (by kernel_rfl) (by kernel_rfl) (fun _ _ _ h => h) (Or.inl ⟨by rfl, ?_⟩) hHeld ?_
                rotate_left
                · intro wq hSw
                  have c0 := hSw.1.a.c0
                  go_simp
                  rfl
                try simp only [Act.put, List.setIfInBounds_toArray, List.set_cons_zero, List.set_cons_succ]
                refine wpAnyH_take (i := 2) (oi := { dst := some 92, op := Op.move (Operand.tmp 10), type := _, pos := _, after := _, guard := _ }) (v := ?_) rfl (by kernel_rfl) (by kernel_rfl) (by kernel_rfl) (fun _ _ _ h => h) (Or.inl ⟨by rfl, ?_⟩) hHeld ?_
                rotate_left
                · intro wq hSw
                  go_simp
                  rfl
                try simp only [Act.put, List.setIfInBounds_toArray, List.set_cons_zero, List.set_cons_succ]
                refine wpAnyH_take (i := 3) (oi := { dst := some 93, op := Op.binOp BinOp.add 22 (Operand.tmp 92) (Operand.const (Value.int IntKind.u64 1)) 22, type := _, pos := _, after := _, guard := _ }) (v := ?_) rfl (by kernel_rfl) (by kernel_rfl) (by kernel_rfl) (fun _ _ _ h => h) (Or.inl ⟨by rfl, ?_⟩) hHeld ?_
                rotate_left
                · intro wq hSw
                  go_simp
                  rfl
                try simp only [Act.put, List.setIfInBounds_toArray, List.set_cons_zero, List.set_cons_succ]
                refine wpAnyH_take (i := 4) (oi := { dst := some 94, op := Op.load 24 (Operand.tmp 11), type := _, pos := _, after := _, guard := _ }) rfl (by kernel_rfl) (by kernel_rfl) (by kernel_rfl) (fun _ _ _ h => h) (yl t28 (by rfl) _ rfl _ rfl (fun w1 h => h.2) hKl) hHeld ?_
                try simp only [Act.put, List.setIfInBounds_toArray, List.set_cons_zero, List.set_cons_succ]
                refine wpAnyH_take (i := 7) (oi := { dst := some 97, op := Op.move (Operand.tmp 13), type := _, pos := _, after := _, guard := _ }) (v := ?_) rfl (by kernel_rfl) (by kernel_rfl) (by kernel_rfl) (fun _ _ _ h => h) (Or.inl ⟨by rfl, ?_⟩) hHeld ?_
                rotate_left
                · intro wq hSw
                  go_simp
                  rfl
                try simp only [Act.put, List.setIfInBounds_toArray, List.set_cons_zero, List.set_cons_succ]
                refine wpAnyH_ready (rs := [5]) (by kernel_rfl) (by simp) ?_
                refine AllReadyH.cons (o := { dst := some 95, op := Op.call { callee := Callee.value (Operand.func 15), args := #[Operand.tmp 94], argTypes := #[24] }, type := _, pos := _, after := _, guard := _ }) rfl (fun KK hKK => ?_) AllReadyH.nil
                have hKS := Lib.hid hKK
                clear hKK
                go_simp
                refine (hnx _).mono ?_
                rintro e w5 ⟨rfl, hx⟩
                go_wp2_with fail
                refine hKS.out.out _ _ (⟨⟨hHeld.1.a.below hx, hHeld.1.b.trans (hx.mono hHeld.1.b.size)⟩, Below.own hx hHeld.2 hHeld.2.lt⟩) (fun hHeld => ?_)
                replace oA := oA.below hx
                clear hKS KK hx
                try simp only [Act.put, List.setIfInBounds_toArray, List.set_cons_zero, List.set_cons_succ]
                refine wpAnyH_take (i := 6) (oi := { dst := some 96, op := Op.build 26 #[(0, Operand.tmp 91), (1, Operand.tmp 93), (2, Operand.tmp 95)], type := _, pos := _, after := _, guard := _ }) rfl (by kernel_rfl) (by kernel_rfl) (by kernel_rfl) (fun _ _ _ h => h) (ybld26 ⟨c.m, n + 1, nxt Kd⟩ (keyed_len _ _) (by rfl) rfl rfl rfl rfl) hHeld ?_
                try simp only [Act.put, List.setIfInBounds_toArray, List.set_cons_zero, List.set_cons_succ]
                refine wpAnyH_ready (rs := [8]) (by kernel_rfl) (by simp) ?_
                refine AllReadyH.cons (o := { dst := none, op := Op.store 26 (Operand.tmp 4) (Operand.tmp 96), type := _, pos := _, after := _, guard := _ }) rfl (fun KK hKK => ?_) AllReadyH.nil
                have hKS := Lib.hid hKK
                clear hKK
                refine wst26 (d := ⟨c.m, n + 1, nxt Kd⟩) (c := zCh) (keyed_len _ _) rfl rfl rfl oA ?_
                have oR := oA.row ⟨c.m, n + 1, nxt Kd⟩ (keyed_len _ _)
                have bR := below_row hHeld.1.b (show w.heap.size ≤ w.heap.size + 1 by omega) (chv ⟨c.m, n + 1, nxt Kd⟩)
                refine hKS.out.out _ _ ⟨⟨hHeld.1.a.rowOther _ (by omega), bR⟩, hHeld.2.rowOther _ _ (by omega)⟩ (fun hHeld => ?_)
                clear hKS KK oA
                try simp only [Act.put, List.setIfInBounds_toArray, List.set_cons_zero, List.set_cons_succ]
                refine wpAnyH_take (i := 9) (oi := { dst := some 5, op := Op.assign (Operand.tmp 97), type := _, pos := _, after := _, guard := _ }) (v := ?_) rfl (by kernel_rfl) (by kernel_rfl) (by kernel_rfl) (fun _ _ _ h => h) (Or.inl ⟨by rfl, ?_⟩) hHeld ?_
                rotate_left
                · intro wq hSw
                  go_simp
                  rfl
                try simp only [Act.put, List.setIfInBounds_toArray, List.set_cons_zero, List.set_cons_succ]
                refine wpAnyH_take (i := 10) (oi := { dst := some 6, op := Op.assign (Operand.const (Value.int IntKind.i64 0)), type := _, pos := _, after := _, guard := _ }) (v := ?_) rfl (by kernel_rfl) (by kernel_rfl) (by kernel_rfl) (fun _ _ _ h => h) (Or.inl ⟨by rfl, ?_⟩) hHeld ?_
                rotate_left
                · intro wq hSw
                  go_simp
                  rfl
                try simp only [Act.put, List.setIfInBounds_toArray, List.set_cons_zero, List.set_cons_succ]
                refine wpAnyH_done (by kernel_rfl) ?_ _
                go_wp2_with fail
                exact res26 rfl rfl rfl rfl oR rfl ⟨by rw [HR2.out]; rfl, bR⟩
              · have ho' : ((o2 : Int) == 0) = false := by rw [beq_eq_false_iff_ne]; omega
                have HR := Lib.hid (HR.out.trans (take3_bad hO3 ho))
                clear hO3 hO hKd hHeld
                go_wp2_with (first | refine ld26 rfl rfl rfl st7.z ?_ | refine sto26 (d := zCh) (c := zCh) zCh_ok.k rfl rfl rfl rfl st7.v.r ?_)
                exact res26 rfl rfl rfl rfl (st7.v.r.row zCh zCh_ok.k) rfl ⟨by rw [HR.out]; rfl, below_row st7.v.b (by omega) _⟩
        · have ha' := str_no ha
          have HR := Lib.hid (HL.out.trans (HL2.out.trans (if_neg ha)))
          refine wp_region_held_drew (S := fun V => Sz w c gz V ∧ V.cell? ⟨g, off, none⟩ = some (.string a) ∧ V.cell? ⟨g, off + 1, none⟩ = some (.string b) ∧ V.cell? ⟨g, off + 2, none⟩ = some (.string x)) (by kernel_rfl) ⟨st.drew, ca, cb, cx⟩ (fun hHeld => ?_)
          clear st ca cx cb
          generalize W1.drew = V0 at *
          refine wpAnyH_take (i := 0) (oi := { dst := some 36, op := Op.move (Operand.tmp 8), type := _, pos := _, after := _, guard := _ }) (v := ?_) rfl (by kernel_rfl) (by kernel_rfl) (by kernel_rfl) (fun _ _ _ h => h) (Or.inl ⟨by rfl, ?_⟩) hHeld ?_
          rotate_left
          · intro wq hSw
            go_simp
            rfl
          try simp only [Act.put, List.setIfInBounds_toArray, List.set_cons_zero, List.set_cons_succ]
          refine wpAnyH_take (i := 1) (oi := { dst := some 37, op := Op.indexAddr 36 (Operand.tmp 36) (Operand.const (Value.int IntKind.i64 0)), type := _, pos := _, after := _, guard := _ }) (v := ?_) rfl (by kernel_rfl) (by kernel_rfl) (by kernel_rfl) (fun _ _ _ h => h) (Or.inl ⟨by rfl, ?_⟩) hHeld ?_
          rotate_left
          · intro wq hSw
            go_simp
            rfl
          try simp only [Act.put, List.setIfInBounds_toArray, List.set_cons_zero, List.set_cons_succ]
          refine wpAnyH_take (i := 2) (oi := { dst := some 38, op := Op.load 9 (Operand.tmp 37), type := _, pos := _, after := _, guard := _ }) (v := ?_) rfl (by kernel_rfl) (by kernel_rfl) (by kernel_rfl) (fun _ _ _ h => h) (Or.inl ⟨by rfl, ?_⟩) hHeld ?_
          rotate_left
          · intro wq hSw
            have ca := hSw.2.1
            go_simp
            rfl
          try simp only [Act.put, List.setIfInBounds_toArray, List.set_cons_zero, List.set_cons_succ]
          refine wpAnyH_take (i := 3) (oi := { dst := some 39, op := Op.fieldAddr 26 (Operand.tmp 2) 0, type := _, pos := _, after := _, guard := _ }) (v := ?_) rfl (by kernel_rfl) (by kernel_rfl) (by kernel_rfl) (fun _ _ _ h => h) (Or.inl ⟨by rfl, ?_⟩) hHeld ?_
          rotate_left
          · intro wq hSw
            go_simp
            rfl
          try simp only [Act.put, List.setIfInBounds_toArray, List.set_cons_zero, List.set_cons_succ]
          refine wpAnyH_take (i := 4) (oi := { dst := some 40, op := Op.load 9 (Operand.tmp 39), type := _, pos := _, after := _, guard := _ }) (v := ?_) rfl (by kernel_rfl) (by kernel_rfl) (by kernel_rfl) (fun _ _ _ h => h) (Or.inl ⟨by rfl, ?_⟩) hHeld ?_
          rotate_left
          · intro wq hSw
            have c0 := hSw.1.v.a.c0
            go_simp
            rfl
          try simp only [Act.put, List.setIfInBounds_toArray, List.set_cons_zero, List.set_cons_succ]
          refine wpAnyH_take (i := 5) (oi := { dst := some 41, op := Op.binOp BinOp.neq 9 (Operand.tmp 38) (Operand.tmp 40) 9, type := _, pos := _, after := _, guard := _ }) (v := ?_) rfl (by kernel_rfl) (by kernel_rfl) (by kernel_rfl) (fun _ _ _ h => h) (Or.inl ⟨by rfl, ?_⟩) hHeld ?_
          rotate_left
          · intro wq hSw
            go_simp
            rfl
          try simp only [Act.put, List.setIfInBounds_toArray, List.set_cons_zero, List.set_cons_succ]
          refine wpAnyH_done (by kernel_rfl) ?_ _
          go_wp2_with (first | refine ld26 rfl rfl rfl hHeld.1.z ?_ | refine sto26 (d := zCh) (c := zCh) zCh_ok.k rfl rfl rfl rfl hHeld.1.v.r ?_)
          exact res26 rfl rfl rfl rfl (hHeld.1.v.r.row zCh zCh_ok.k) rfl ⟨by rw [HR.out]; rfl, below_row hHeld.1.v.b (by omega) _⟩
      · have h8' : ((b.size : Int) == 8) = false := by rw [beq_eq_false_iff_ne]; omega
        have HR := Lib.hid (show takeR c f = bad 3 from HL.out.trans (if_neg h8))
        go_wp2_with (first | refine ld26 rfl rfl rfl st.z ?_ | refine sto26 (d := zCh) (c := zCh) zCh_ok.k rfl rfl rfl rfl st.v.r ?_)
        exact res26 rfl rfl rfl rfl (st.v.r.row zCh zCh_ok.k) rfl ⟨by rw [HR.out]; rfl, below_row st.v.b (by omega) _⟩

    · have h3' : ((l.length : Int) == 3) = false := by rw [beq_eq_false_iff_ne]; omega
      have HR := Lib.hid (show takeR c f = bad 3 from HL.out.trans (takeL_len c l h3))
      clear hts
      go_wp2_with (first | refine ld26 rfl rfl rfl st.z ?_ | refine sto26 (d := zCh) (c := zCh) zCh_ok.k rfl rfl rfl rfl st.v.r ?_)
      exact res26 rfl rfl rfl rfl (st.v.r.row zCh zCh_ok.k) rfl ⟨by rw [HR.out]; rfl, below_row st.v.b (by omega) _⟩

  · have HR := Lib.hid (show takeR c f = bad (Nu.texts (Un.Nm.toL f)).2 from if_neg he)
    have he' : (((Nu.texts (Un.Nm.toL f)).2 : Int) == 0) = false := by rw [beq_eq_false_iff_ne]; omega
    clear hl hts he
    generalize (Nu.texts (Un.Nm.toL f)).2 = E at *
    go_wp2_with (first | refine ld26 rfl rfl rfl st.z ?_ | refine sto26 (d := zCh) (c := zCh) zCh_ok.k rfl rfl rfl rfl st.v.r ?_)
    exact res26 rfl rfl rfl rfl (st.v.r.row zCh zCh_ok.k) rfl ⟨by rw [HR.out]; rfl, below_row st.v.b (by omega) _⟩

end Go.Proofs.YtaoaebdjinlcnaaDoor
namespace Go.Proofs.YtaoaebdjinlcnaaDoor
set_option linter.unusedVariables false
set_option linter.unusedSimpArgs false
set_option maxRecDepth 100000
open Go.RowKit
theorem wanted_step {ops : Array Oper} {rest : List Oper} {o : Oper} {a : Act} {w : World} {Q : Exit → Act → World → Prop} (hgd : Region.wanted o (yielded ops a.tmps) = true)
    (h : o.wp Tryd.prog a w (wpList Tryd.prog ops Q rest) Q) : wpList Tryd.prog ops Q (o :: rest) a w := by
  show (if Region.wanted o (yielded ops a.tmps) then o.wp Tryd.prog a w (wpList Tryd.prog ops Q rest) Q ∨ (o.asks Tryd.prog a w ∧ LetsOut Q) else wpList Tryd.prog ops Q rest (a.put o.dst undef) w)
  rw [if_pos hgd]
  exact .inl h
theorem eq26w {ops : Array Oper} {rest : List Oper} {o : Oper} {a : Act} {w : World} {Q : Exit → Act → World → Prop} {x y : Operand} {c : Ch} (hc : c.K.length = 32)
    (hgd : Region.wanted o (yielded ops a.tmps) = true) (ho : o.op = .binOp .eql 26 x y 26) (hx : a.eval x = .agg (chv c)) (hy : a.eval y = .agg (chv c))
    (h : wpList Tryd.prog ops Q rest (a.put o.dst (.bool true)) w) : wpList Tryd.prog ops Q (o :: rest) a w := wanted_step hgd (by
  have e := exec_eq26 c hc w a.eval x y hx hy o ho
  unfold Oper.wp
  rw [e]
  exact h)
theorem ne26w {ops : Array Oper} {rest : List Oper} {o : Oper} {a : Act} {w : World} {Q : Exit → Act → World → Prop} {x y : Operand} {c : Ch} (hc : c.K.length = 32)
    (hgd : Region.wanted o (yielded ops a.tmps) = true) (ho : o.op = .binOp .neq 26 x y 26) (hx : a.eval x = .agg (chv c)) (hy : a.eval y = .agg (chv c))
    (h : wpList Tryd.prog ops Q rest (a.put o.dst (.bool false)) w) : wpList Tryd.prog ops Q (o :: rest) a w := wanted_step hgd (by
  have e := exec_ne26 c hc w a.eval x y hx hy o ho
  unfold Oper.wp
  rw [e]
  exact h)
theorem ne24w {ops : Array Oper} {rest : List Oper} {o : Oper} {a : Act} {w : World} {Q : Exit → Act → World → Prop} {x y : Operand} {K : List Nat} (hc : K.length = 32)
    (hgd : Region.wanted o (yielded ops a.tmps) = true) (ho : o.op = .binOp .neq 24 x y 24) (hx : a.eval x = .agg (vs .u8 K)) (hy : a.eval y = .agg (vs .u8 K))
    (h : wpList Tryd.prog ops Q rest (a.put o.dst (.bool false)) w) : wpList Tryd.prog ops Q (o :: rest) a w := wanted_step hgd (by
  have e := exec_ne24 K hc w a.eval x y hx hy o ho
  unfold Oper.wp
  rw [e]
  exact h)
theorem ld26w {ops : Array Oper} {rest : List Oper} {o : Oper} {a : Act} {w : World} {Q : Exit → Act → World → Prop} {x : Operand} {g : Nat} {c : Ch}
    (hgd : Region.wanted o (yielded ops a.tmps) = true) (ho : o.op = .load 26 x) (hx : a.eval x = .pointer (some ⟨g, 0, none⟩)) (hg : Cb w g c)
    (h : wpList Tryd.prog ops Q rest (a.put o.dst (.agg (chv c))) w) : wpList Tryd.prog ops Q (o :: rest) a w := wanted_step hgd
  (wp_load_row 26 x ho g hx 26 _ (0, 0) _ hg.o Tryd.underlying26 rfl (by rw [chv_size _ hg.k]; exact info26) h)
theorem ldkw {ops : Array Oper} {rest : List Oper} {o : Oper} {a : Act} {w : World} {Q : Exit → Act → World → Prop} {x : Operand} {g : Nat} {c : Ch}
    (hgd : Region.wanted o (yielded ops a.tmps) = true) (ho : o.op = .load 24 x) (hx : a.eval x = .pointer (some ⟨g, 2, none⟩)) (hg : Cb w g c)
    (h : wpList Tryd.prog ops Q rest (a.put o.dst (.agg (vs .u8 c.K))) w) : wpList Tryd.prog ops Q (o :: rest) a w := wanted_step hgd
  (wp_load_mid 24 x ho g 2 hx (vs .u8 c.K).toList _ hg.rg Tryd.underlying24 rfl (by rw [Array.length_toList, vs_size, hg.k]; exact info24) h)
theorem bld26a {ops : Array Oper} {rest : List Oper} {o : Oper} {a : Act} {w : World} {Q : Exit → Act → World → Prop}
    (hgd : o.guard = none) (ho : o.op = .build 26 #[(0, .const (.string ⟨#[97]⟩))]) (h : wpList Tryd.prog ops Q rest (a.put o.dst (.agg (chv ⟨⟨#[97]⟩, 0, List.replicate 32 0⟩))) w) : wpList Tryd.prog ops Q (o :: rest) a w := by
  have hb : Tryd.prog.built 26 ((#[(0, Operand.const (.string ⟨#[97]⟩))] : Array (Nat × Operand)).map fun (i, x) => (i, a.eval x)).toList = some (chv ⟨⟨#[97]⟩, 0, List.replicate 32 0⟩) := by
    have e : ((#[(0, Operand.const (.string ⟨#[97]⟩))] : Array (Nat × Operand)).map fun (i, x) => (i, a.eval x)).toList = [(0, .string ⟨#[97]⟩)] := by simp; rfl
    rw [e]; exact built26a
  exact wpList_build hgd 26 _ ho (by rw [hb]; rfl) (by rw [hb]; exact h)
/-- an end lies in a new box, whatever lay there -/
theorem sto26n {ops : Array Oper} {rest : List Oper} {o : Oper} {a : Act} {w : World} {Q : Exit → Act → World → Prop} {x y : Operand} {d : Ch} {cs : Array Value} (hd : d.K.length = 32)
    (hgd : o.guard = none) (ho : o.op = .store 26 x y) (hx : a.eval x = .pointer (some ⟨w.heap.size, 0, none⟩)) (hy : a.eval y = .agg (chv d)) (hcs : cs.size = 34)
    (h : wpList Tryd.prog ops Q rest (a.put o.dst undef) (w.alloc (.cells (chv d) 26))) : wpList Tryd.prog ops Q (o :: rest) a (w.alloc (.cells cs 26)) :=
  wpList_store_row hgd 26 x y ho w.heap.size _ hx hy 26 cs (Own.new w 26 cs) (by rw [chv_size _ hd]; exact info26) (by rw [chv_size _ hd, hcs]) (chv_one d) (by rw [World.setRow_alloc_new]; exact h)
def cA : Ch := ⟨⟨#[97]⟩, 0, List.replicate 32 0⟩
theorem cA_ok : cA.Ok := ⟨by decide, by simp [cA], fun x hx => by rw [(List.mem_replicate.1 hx).2]; decide⟩
def cB : Ch := ⟨⟨#[97]⟩, 1, nxt (List.replicate 32 0)⟩
theorem cB_ok : cB.Ok := ⟨by decide, keyed_len _ _, keyed_by _ _⟩
def hi : ByteArray := ⟨#[104, 105]⟩
theorem sendA : sendR cA hi = (cB, frameD cA hi, 0) := send_ok cA hi (by decide) (by decide)
theorem takeA : takeR cA (frameD cA hi) = (cB, hi, 0) := take_own cA cA hi (by decide) (by decide) (by decide) rfl (Nat.le_refl _) (by decide) rfl
theorem takeB : takeR cB (frameD cA hi) = bad 19 := take_old cB cA hi (by decide) (by decide) (by decide) rfl (by decide)
theorem frameA : (frameD cA hi).size ≤ 10000 := Nat.le_trans (frame_size cA hi (by decide) (by decide)) (by decide)
set_option maxHeartbeats 2000000 in
theorem fixed_any (w : World) (hT : Tab w) : Calls Tryd.prog 11 #[] w fun e w' => e = .returned (.bool true) ∧ Below w.heap.size w w' := by
  have hs := fun wr (h : Below w.heap.size w wr) => send_any cA hi wr cA_ok (hT.below h) (by decide) (.inl (by decide))
  have ht := fun wr (h : Below w.heap.size w wr) => stake_any cA (frameD cA hi) wr cA_ok (hT.below h) (by decide) frameA
  have ht2 := fun wr (h : Below w.heap.size w wr) => stake_any cB (frameD cA hi) wr cB_ok (hT.below h) (by decide) frameA
  rw [sendA] at hs
  rw [takeA] at ht
  rw [takeB] at ht2
  have hhi : hi.toList = [104, 105] := by decide +kernel
  have b0 := grow w (Obj.cells (chv cA) 26)
  have k0 := Cb.new w cA cA_ok.k
  generalize frameD cA hi = F at *
  go_enter Tryd.func11, Tryd.ntmps11
  go_wp2_with (first | refine bld26a rfl rfl ?_ | refine sto26n (d := cA) cA_ok.k rfl rfl rfl rfl rfl ?_ | refine ld26 rfl rfl rfl k0 ?_)
  change Calls _ _ #[.agg (chv cA), .string hi] (w.alloc (Obj.cells (chv cA) 26)) _
  generalize w.alloc (Obj.cells (chv cA) 26) = W0 at *
  refine (hs _ b0).mono ?_
  rintro e W1 ⟨rfl, hx⟩
  have k1 := k0.below hx
  have b1 := b0.trans (hx.mono b0.size)
  clear k0 b0 hx hs
  have k2 := (k1.alloc (Obj.cells (chv cB) 26))
  have n2 := Cb.new W1 cB cB_ok.k
  have b2 := b1.trans ((grow W1 (Obj.cells (chv cB) 26)).mono b1.size)
  dsimp only [rsv]
  go_wp2_with (first | refine sto26n (d := cB) cB_ok.k rfl rfl rfl rfl rfl ?_ | refine ld26 rfl rfl rfl k2 ?_)
  clear k1 b1
  generalize W1.alloc (Obj.cells (chv cB) 26) = W2 at *
  refine (ht _ b2).mono ?_
  rintro e W3 ⟨rfl, hx⟩
  have n3 := n2.below hx
  have b3 := b2.trans (hx.mono b2.size)
  clear k2 n2 b2 hx ht
  have n4 := (n3.alloc (Obj.cells (chv cB) 26))
  have m4 := Cb.new W3 cB cB_ok.k
  have b4 := b3.trans ((grow W3 (Obj.cells (chv cB) 26)).mono b3.size)
  dsimp only [rsv]
  go_wp2_with (first | refine sto26n (d := cB) cB_ok.k rfl rfl rfl rfl rfl ?_ | refine ld26 rfl rfl rfl m4 ?_)
  clear n3 b3
  generalize W3.alloc (Obj.cells (chv cB) 26) = W4 at *
  refine (ht2 _ b4).mono ?_
  rintro e W5 ⟨rfl, hx⟩
  have n5 := (n4.below hx).alloc (Obj.cells (chv zCh) 26)
  have m5 := (m4.below hx).alloc (Obj.cells (chv zCh) 26)
  have b5 := (b4.trans (hx.mono b4.size))
  have b6 := b5.trans ((grow W5 (Obj.cells (chv zCh) 26)).mono b5.size)
  have c1 := m5.c1
  have d1 := n5.c1
  clear n4 m4 b4 hx ht2 b5
  dsimp only [rsv, bad]
  go_wp2_with (first | refine sto26n (d := zCh) zCh_ok.k rfl rfl rfl rfl rfl ?_ | refine ld26w (by kernel_rfl) rfl rfl n5 ?_ | refine ld26w (by kernel_rfl) rfl rfl m5 ?_ | refine eq26w cB_ok.k (by kernel_rfl) rfl rfl rfl ?_)
  go_ret
  exact ⟨rfl, b6⟩
end Go.Proofs.YtaoaebdjinlcnaaDoor
namespace Go.Proofs.YtaoaebdjinlcnaaDoor
set_option linter.unusedVariables false
set_option linter.unusedSimpArgs false
set_option maxRecDepth 100000
open Go.RowKit
theorem str_ok {W : World} {base : Nat} {v : Value} (h : Cell.okWide Tryd.prog W .any base 9 v) : ∃ s : ByteArray, v = .string s := by
  unfold Cell.okWide at h
  rw [Tryd.underlying9] at h
  cases v <;> simp only [Cell.ok, Tryd.underlying9] at h
  exact ⟨_, rfl⟩
theorem u64_ok {W : World} {base : Nat} {v : Value} (h : Cell.okWide Tryd.prog W .any base 22 v) : ∃ m : Nat, v = .int .u64 (m : Int) ∧ m < 18446744073709551616 := by
  unfold Cell.okWide at h
  rw [Tryd.underlying22] at h
  cases v <;> simp only [Cell.ok, Tryd.underlying22] at h
  obtain ⟨rfl, h⟩ := h
  rename_i n
  simp [IntKind.has, IntKind.min, IntKind.max, IntKind.signed, IntKind.bits] at h
  obtain ⟨m, rfl⟩ := Int.eq_ofNat_of_zero_le h.1
  exact ⟨m, rfl, by omega⟩
theorem okChan {W : World} {base : Nat} {v : Value} (h : Value.okWide Tryd.prog W .any base 26 v) : ∃ c : Ch, v = .agg (chv c) ∧ c.Ok := by
  simp only [Value.okWide, Tryd.underlying26] at h
  obtain ⟨cs, rfl, hsz, ts, hts', _, hcell⟩ := h
  have hts : Tryd.prog.cellTypes Tryd.prog.depth 26 = some (9 :: 22 :: List.replicate 32 5) := by kernel_rfl
  rw [hts] at hts'
  cases hts'
  rw [show Tryd.prog.cellsOf 26 = 34 by kernel_rfl] at hsz
  obtain ⟨ls⟩ := cs
  obtain ⟨x0, l1, rfl, h1⟩ := cons_len (n := 33) (K := ls) (by simpa using hsz)
  obtain ⟨x1, l2, rfl, h2⟩ := cons_len (n := 32) (K := l1) h1
  obtain ⟨s, rfl⟩ : ∃ s, x0 = .string s := by
    obtain ⟨u, hu, hk⟩ := hcell 0 x0 rfl
    cases hu
    exact str_ok hk
  obtain ⟨n, rfl, hn⟩ : ∃ m : Nat, x1 = .int .u64 (m : Int) ∧ m < 18446744073709551616 := by
    obtain ⟨u, hu, hk⟩ := hcell 1 x1 rfl
    cases hu
    exact u64_ok hk
  obtain ⟨K, e1, e2, e3⟩ := bytes_of l2.toArray fun i v hv => by
    obtain ⟨u, hu, hk⟩ := hcell (i + 2) v (by simpa using hv)
    have hi : i < l2.length := by have := (Array.getElem?_eq_some_iff.1 hv).1; simpa using this
    rw [show (i + 2) % (9 :: 22 :: List.replicate 32 5).length = i + 2 from Nat.mod_eq_of_lt (by simp; omega)] at hu
    have : u = 5 := by
      have hu' : (List.replicate 32 5)[i]? = some u := hu
      rw [List.getElem?_replicate] at hu'
      split at hu'
      · exact (Option.some.inj hu').symm
      · cases hu'
    subst this
    exact u8_ok hk
  have e4 := congrArg Array.toList e1
  simp only [vs] at e4
  refine ⟨⟨s, n, K⟩, ?_, hn, by rw [e2]; simpa using h2, e3⟩
  rw [e4]
  rfl
theorem u16_ok {W : World} {base : Nat} {t : Nat} (ht : Tryd.prog.underlying t = some (.int .u16)) {v : Value} (h : Cell.okWide Tryd.prog W .any base t v) : ∃ m : Nat, v = .int .u16 (m : Int) ∧ m < 65536 := by
  unfold Cell.okWide at h
  rw [ht] at h
  cases v <;> simp only [Cell.ok, ht] at h
  obtain ⟨rfl, h⟩ := h
  rename_i n
  simp [IntKind.has, IntKind.min, IntKind.max, IntKind.signed, IntKind.bits] at h
  obtain ⟨m, rfl⟩ := Int.eq_ofNat_of_zero_le h.1
  exact ⟨m, rfl, by omega⟩
theorem nat_u32 {n : Int} (h : (Lit.int .u32 n).wf = true) : ∃ m : Nat, n = (m : Int) ∧ m < 4294967296 := by
  simp [Lit.wf, IntKind.has, IntKind.min, IntKind.max, IntKind.signed, IntKind.bits] at h
  obtain ⟨m, rfl⟩ := Int.eq_ofNat_of_zero_le h.1
  exact ⟨m, rfl, by omega⟩
theorem bad_len (e : Nat) : (bad e).1.K.length = 32 := by simp [bad, zCh]
theorem take3_len (c : Ch) (n : Nat) (x : ByteArray) : (take3 c n x).1.K.length = 32 := by
  unfold take3
  simp only
  split
  · exact keyed_len _ _
  · exact bad_len _
theorem take2_len (c : Ch) (n : Nat) (x : ByteArray) : (take2 c n x).1.K.length = 32 := by
  unfold take2
  split
  · exact bad_len _
  · split
    · exact bad_len _
    · exact take3_len _ _ _
theorem takeL_ok (c : Ch) (l : List ByteArray) : (takeL c l).1.K.length = 32 := by
  by_cases h : l.length = 3
  · obtain ⟨a, b, x, rfl⟩ := len_three h
    show (if b.size = 8 then (if a = c.m then take2 c (Nu.getB (Un.Nm.toL b)) x else bad 7) else bad 3).1.K.length = 32
    split
    · split
      · exact take2_len _ _ _
      · exact bad_len _
    · exact bad_len _
  · rw [takeL_len c l h]
    exact bad_len _
theorem takeR_ok {c : Ch} (hc : c.Ok) (f : ByteArray) : (takeR c f).1.K.length = 32 := by
  unfold takeR
  split
  · exact takeL_ok _ _
  · exact bad_len _
theorem sendR_len (c : Ch) (d : ByteArray) : (sendR c d).1.K.length = 32 := by
  unfold sendR
  split
  · exact bad_len _
  · split
    · exact bad_len _
    · exact keyed_len _ _
end Go.Proofs.YtaoaebdjinlcnaaDoor
