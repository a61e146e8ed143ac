/-
  THE WALK of the document's Join.
-/
import Derived.Test.YtgfnpemonpebpaaRj
namespace Go.Proofs.Ytgfnpemonpebpaa
open Go.RowKit
set_option linter.unusedVariables false
set_option linter.unusedSimpArgs false
/-- one byte more -/
theorem app_byte2 {w : World} {ops : Array Oper} {rest : List Oper} {o : Oper} {a : Act} {Q : Exit → Act → World → Prop} (hgd : o.guard = none) (s x : Operand)
    (ho : o.op = .call { callee := .builtin .append, args := #[s, x], argTypes := #[36, 36] })
    (B : Nat) (A : Option Addr) (n cap : Nat) (l : List Nat) (hs : a.eval s = .slice A n cap) (hr : RB w B A n cap l)
    (g1 y c : Nat) (hx : a.eval x = .slice (some ⟨g1, 0, none⟩) 1 c) (hy : w.cell? ⟨g1, 0, none⟩ = some (bv y)) (hyb : y < 256) (hn : n ≤ 100000) (hB : B ≤ w.heap.size) (H : Nat) (hH : w.heap.size = H)
    (h : ∀ g cap' w', RB w' B (some ⟨g, 0, none⟩) (n + 1) cap' (l ++ [y]) → Below B w w' →
      wpList Try.prog ops Q rest (a.put o.dst (.slice (some ⟨g, 0, none⟩) (n + 1) cap')) w') : wpList Try.prog ops Q (o :: rest) a w := by
  obtain ⟨i0, hi, hz0, hz1, hz2⟩ := info_parts info5
  refine wpList_append_lies w hgd s x 36 ho B 5 i0 (.int .u8 0) 1 1 Try.underlying36 hi hz0 hz1 hz2 rfl (by decide) _ n (l.map bv) hs hr.2.2 ⟨g1, 0, none⟩ 1 c [bv y] hx rfl ?_ ?_ (by omega)
    (by unfold maxLen; omega) (by omega) hB H hH ?_
  · intro j u hu
    match j, hu with
    | 0, hu => simp at hu; subst hu; exact hy
  · intro u hu
    simp at hu
    subst hu
    rfl
  · intro g cap' w' h1 h2 h3 _
    refine h g cap' w' ⟨by simp [hr.1], ?_, by simpa [bv] using h1⟩ ?_
    · intro z hz
      rcases List.mem_append.1 hz with hz | hz
      · exact hr.2.1 z hz
      · simp at hz; omega
    · refine (Below.refl _ _).grown h2 hB fun k hk => ?_
      exact (hr.2.2.lt k hk).1
theorem RB.cap {w : World} {B : Nat} {A : Option Addr} {n cap : Nat} {l : List Nat} (h : RB w B A n cap l) : n ≤ cap := by
  rcases h.2.2.2 with ⟨h1, h2⟩ | ⟨g, c, cur, h1, h2, h3, h4, _⟩
  · omega
  · injection h1 with _ _ h1
    omega
theorem RB.drew {w : World} {B : Nat} {A : Option Addr} {n cap : Nat} {l : List Nat} (h : RB w B A n cap l) : RB w.drew B A n cap l := h
/-- all three rows, one behind the other -/
def full (a b c : Nat) (R S T : List Nat) (n : Nat) : List Nat := Pa.row a b c R S T n 1 ++ Pa.row a b c R S T n 2 ++ Pa.row a b c R S T n 3
theorem full_length (a b c : Nat) (R S T : List Nat) (n : Nat) : (full a b c R S T n).length = 3 * n := by simp [full, Pa.row_length]; omega
theorem full_nth (a b c : Nat) (R S T : List Nat) {n X k : Nat} (h1 : 1 ≤ X) (h3 : X ≤ 3) (hk : k < n) : Gf.nth (full a b c R S T n) ((X - 1) * n + k) = Gf.atk [a, b, c] [Gf.nth R k, Gf.nth S k, Gf.nth T k] X 3 := by
  unfold full
  match X, h1, h3 with
  | 1, _, _ =>
    rw [nth_left (by rw [List.length_append, Pa.row_length, Pa.row_length]; omega), nth_left (by rw [Pa.row_length]; omega), show (1 - 1) * n + k = k from by omega, Pa.row_nth _ _ _ _ _ _ _ hk]
  | 2, _, _ =>
    rw [nth_left (by rw [List.length_append, Pa.row_length, Pa.row_length]; omega), Gf.nth_eq, List.getElem?_append_right (by rw [Pa.row_length]; omega), Pa.row_length, show (2 - 1) * n + k - n = k from by omega, ← Gf.nth_eq, Pa.row_nth _ _ _ _ _ _ _ hk]
  | 3, _, _ =>
    rw [Gf.nth_eq, List.getElem?_append_right (by rw [List.length_append, Pa.row_length, Pa.row_length]; omega), List.length_append, Pa.row_length, Pa.row_length, show (3 - 1) * n + k - (n + n) = k from by omega, ← Gf.nth_eq, Pa.row_nth _ _ _ _ _ _ _ hk]
set_option maxRecDepth 100000 in
set_option maxHeartbeats 4000000 in
theorem rjoin_any (A : Option Addr) (m cap : Nat) (l : List (Int × ByteArray)) (size : Int) (w : World) (hm : l.length = m) (hmx : m ≤ 100000) (hl : Ps w A l) (hs1 : -9223372036854775808 ≤ size) (hs2 : size ≤ 9223372036854775807) (hsz : size ≤ 1800 ∨ 65536 < size) :
    Calls Try.prog 16 #[.slice A m cap, .int .i64 size] w fun e w' => e = .returned (.tuple #[.string (joined l size).1, .int .i64 ((joined l size).2 : Nat)]) ∧ Below w.heap.size w w' := by
  by_cases h0 : size < 0
  · have e : joined l size = (⟨#[]⟩, 2) := by unfold joined; rw [if_pos (Or.inl h0)]
    rw [e]
    go_enter Try.func16, Try.ntmps16
    go_wp2_with fail
    go_ret2
    exact ⟨rfl, Below.refl _ _⟩
  · by_cases h6 : 65536 < size
    · have e : joined l size = (⟨#[]⟩, 2) := by unfold joined; rw [if_pos (Or.inr h6)]
      rw [e]
      go_enter Try.func16, Try.ntmps16
      go_wp2_with fail
      go_ret2
      exact ⟨rfl, Below.refl _ _⟩
    · obtain ⟨z, rfl⟩ : ∃ z : Nat, size = (z : Int) := ⟨size.toNat, by omega⟩
      have hz : z ≤ 1800 := by omega
      obtain ⟨n, hn⟩ : ∃ n, n = Pa.cnt z := ⟨_, rfl⟩
      have hn3 : n ≤ 700 := by rw [hn]; unfold Pa.cnt; omega
      have hzn : z ≤ 3 * n := by rw [hn]; unfold Pa.cnt; omega
      have hr := fun w => rrows_any (z : Int) (by omega) (by omega) w
      simp only [rowsI_nat] at hr
      rw [← hn] at hr
      have hf := three_any A m cap n l w hm hmx hl
      have hg := pick_good (n := n) l [] (good_nil n)
      have hJ : joined l (z : Int) = if (pick n [] l).2 ≠ 0 then (⟨#[]⟩, (pick n [] l).2) else (bs (toldA (pick n [] l).1 n z), 0) := by
        unfold joined; rw [if_neg (by omega), Int.toNat_natCast, ← hn]
      generalize pick n [] l = P at *
      obtain ⟨acc, code⟩ := P
      simp only at hf hg hJ
      have HN := Lib.hid hn
      clear hn hsz
      by_cases hc : code = 0
      · obtain ⟨⟨a8, b8, c8⟩, ⟨h12, h13, h23⟩, ⟨s0, s1, s2⟩, ex, er⟩ := good_three hg.1 (hg.2 hc)
        rw [if_neg (by rw [hc]; simp)] at hJ
        rw [hJ]
        subst hc
        have hlen := hg.2 rfl
        have hgood := hg.1.2.1
        obtain ⟨p0, p1, p2, rfl⟩ : ∃ p0 p1 p2, acc = [p0, p1, p2] := by
          match acc, hlen with
          | [p, q, r], _ => exact ⟨p, q, r, rfl⟩
        have g0 := hgood p0 (by simp)
        have g1 := hgood p1 (by simp)
        have g2 := hgood p2 (by simp)
        obtain ⟨I0, R0⟩ := p0
        obtain ⟨I1, R1⟩ := p1
        obtain ⟨I2, R2⟩ := p2
        simp only at g0 g1 g2
        obtain ⟨a, rfl⟩ : ∃ a : Nat, I0 = (a : Int) := ⟨I0.toNat, by omega⟩
        obtain ⟨b, rfl⟩ : ∃ b : Nat, I1 = (b : Int) := ⟨I1.toNat, by omega⟩
        obtain ⟨c, rfl⟩ : ∃ c : Nat, I2 = (c : Int) := ⟨I2.toNat, by omega⟩
        simp only [num, txt, List.getD_cons_zero, List.getD_cons_succ, Int.toNat_natCast] at a8 b8 c8 h12 h13 h23 s0 s1 s2
        have e0 : toldA [((a : Int), R0), ((b : Int), R1), ((c : Int), R2)] n z = (full a b c (toN R0) (toN R1) (toN R2) n).take z := rfl
        rw [e0]
        have hd3 := Sx.dup3_ne h12 h13 h23
        have hAt : ∀ X y0 y1 y2 e, AtIs [a, b, c] [y0, y1, y2] X e → e = .returned (.tuple #[.int .u8 (Gf.atk [a, b, c] [y0, y1, y2] X 3 : Nat), .bool true]) := fun X y0 y1 y2 e h => by
          unfold AtIs at h
          rw [if_pos ⟨rfl, hd3⟩] at h
          exact h
        have ua : IntKind.u8.wrap (a : Int) = (a : Int) := by rw [IntKind.wrap_u8]; omega
        have ub : IntKind.u8.wrap (b : Int) = (b : Int) := by rw [IntKind.wrap_u8]; omega
        have uc : IntKind.u8.wrap (c : Int) = (c : Int) := by rw [IntKind.wrap_u8]; omega
        have bF : Gf.Bytes (full a b c (toN R0) (toN R1) (toN R2) n) := fun x hx => by
          unfold full at hx
          rcases List.mem_append.1 hx with h | h
          · rcases List.mem_append.1 h with h | h
            · exact Pa.row_bytes (toN_bytes _) (toN_bytes _) (toN_bytes _) _ _ _ _ _ x h
            · exact Pa.row_bytes (toN_bytes _) (toN_bytes _) (toN_bytes _) _ _ _ _ _ x h
          · exact Pa.row_bytes (toN_bytes _) (toN_bytes _) (toN_bytes _) _ _ _ _ _ x h
        have lF := full_length a b c (toN R0) (toN R1) (toN R2) n
        have nF := fun {X k : Nat} => full_nth a b c (toN R0) (toN R1) (toN R2) (n := n) (X := X) (k := k)
        generalize full a b c (toN R0) (toN R1) (toN R2) n = F at *
        have HZ := Lib.hid (And.intro hJ (And.intro hg (And.intro e0 (And.intro g0 (And.intro g1 g2)))))
        have hnF := Lib.hid (And.intro (@nF) hd3)
        clear hJ hg e0 ex er g0 g1 g2 hlen hgood nF hd3 h12 h13 h23
        go_enter Try.func16, Try.ntmps16
        go_wp2_with (first | (go_at_call 14; refine (hr _).mono ?_; rintro e w' ⟨rfl, rfl⟩) | (go_at_call 23; refine hf.mono ?_; rintro e w1 ⟨g, cg, rfl, oP, bW⟩; have pA := oP.pl; have e0 := pA 0 _ rfl; have e1 := pA 1 _ rfl; have e2 := pA 2 _ rfl; obtain ⟨e00, e01⟩ := e0; obtain ⟨e10, e11⟩ := e1; obtain ⟨e20, e21⟩ := e2; simp only [Nat.zero_add, Nat.zero_mul, Nat.reduceMul, Nat.reduceAdd] at e00 e01 e10 e11 e20 e21))
        go_region
        have oX := (Own.new w1 5 (vs [a, b, c])).drew
        have k2 : Below w1.heap.size w1 (w1.alloc (Obj.cells (vs [a, b, c]) 5)).drew := ((Below.refl _ w1).alloc (Nat.le_refl _) _).drew
        replace pA := pA.below k2
        have hgl := oP.lt
        replace bW := bW.trans (k2.mono bW.size)
        have hgx : g < w1.heap.size := hgl.2
        clear oP e00 e01 e10 e11 e20 e21 k2 hgl
        change Exit.then _ _ _ _ (w1.alloc (Obj.cells (vs [a, b, c]) 5)).drew
        generalize (w1.alloc (Obj.cells (vs [a, b, c]) 5)).drew = w2 at *
        generalize w1.heap.size = gX at *
        have oB : RB (w2.alloc (Obj.cells #[] 5)) w2.heap.size (some ⟨w2.heap.size, 0, none⟩) 0 0 (F.take 0) := ⟨rfl, fun _ h => by simp at h, World.ownsRow_made w2 #[] 0 (Nat.le_refl _) (by decide) rfl⟩
        have k3 : Below w2.heap.size w2 (w2.alloc (Obj.cells #[] 5)) := (Below.refl _ w2).alloc (Nat.le_refl _) _
        have hX2 := oX.lt
        have sz3 : w2.heap.size < (w2.alloc (Obj.cells #[] 5)).heap.size := by simp
        have hwG := bW.size
        replace oX := oX.below k3
        replace pA := pA.below k3
        replace bW := bW.trans (k3.mono bW.size)
        clear k3
        go_wp2_with fail
        generalize w2.alloc (Obj.cells #[] 5) = w3 at *
        generalize w2.heap.size = C at *
        go_loopw [10, 11] (fun o i wr => ∃ X A' c', 1 ≤ X ∧ X ≤ 4 ∧ i = .int .i64 ((X : Nat) : Int) ∧ o = .slice (some ⟨A', 0, none⟩) ((X - 1) * n) c' ∧ RB wr C (some ⟨A', 0, none⟩) ((X - 1) * n) c' (F.take ((X - 1) * n)) ∧ Own wr gX 5 (vs [a, b, c]) ∧ Pl wr g 0 [((a : Int), R0), ((b : Int), R1), ((c : Int), R2)] ∧ Below w.heap.size w wr ∧ C < wr.heap.size) (fun _ i _ => 4 - (intOf i).toNat)
        case atStart => exact ⟨1, C, 0, by omega, by omega, rfl, by simp, by simpa using oB, oX, pA, bW, sz3⟩
        case round =>
          clear oB oX pA bW sz3
          obtain ⟨X, A', c', h1, h4, rfl, rfl, oB, oX, pA, bW, sz3⟩ := hrel
          by_cases hX3 : X ≤ 3
          · have i3 : (X : Int) ≤ 3 := by omega
            have eX1 : IntKind.i64.wrap ((X : Int) + 1) = (X : Int) + 1 := IntWalk.i64_in _ (by omega)
            have eX2 : IntKind.u8.wrap (X : Int) = (X : Int) := by rw [IntKind.wrap_u8]; omega
            have hX8 : X < 256 := by omega
            obtain ⟨Q0, hQ0⟩ : ∃ Q, Q = (X - 1) * n := ⟨_, rfl⟩
            rw [← hQ0] at oB ⊢
            have hq3 : Q0 + n ≤ 3 * n := by
              rw [hQ0]
              have : X - 1 + 1 ≤ 3 := by omega
              calc (X - 1) * n + n = (X - 1 + 1) * n := by rw [Nat.add_mul, Nat.one_mul]
                _ ≤ 3 * n := Nat.mul_le_mul_right _ this
            have HQ := Lib.hid hQ0
            clear hQ0
            go_wp2_with fail
            go_loopw [10, 12] (fun o i wr => ∃ k A' c', k ≤ n ∧ i = .int .i64 ((k : Nat) : Int) ∧ o = .slice (some ⟨A', 0, none⟩) (Q0 + k) c' ∧ RB wr C (some ⟨A', 0, none⟩) (Q0 + k) c' (F.take (Q0 + k)) ∧ Own wr gX 5 (vs [a, b, c]) ∧ Pl wr g 0 [((a : Int), R0), ((b : Int), R1), ((c : Int), R2)] ∧ Below w.heap.size w wr ∧ C < wr.heap.size) (fun _ i _ => n - (intOf i).toNat)
            case atStart => exact ⟨0, _, _, by omega, rfl, rfl, oB, oX, pA, bW, sz3⟩
            case round =>
              clear oB oX pA bW sz3
              obtain ⟨k, A', c', hk, rfl, rfl, oB, oX, pA, bW, sz3⟩ := hrel
              by_cases hkn : k < n
              · have k0 : (k : Int) < (n : Int) := by omega
                have ek : IntKind.i64.wrap ((k : Int) + 1) = (k : Int) + 1 := IntWalk.i64_in _ (by omega)
                have m0 : k < R0.size := by omega
                have m1 : k < R1.size := by omega
                have m2 : k < R2.size := by omega
                have j0 : (k : Int) < (R0.size : Int) := by omega
                have j1 : (k : Int) < (R1.size : Int) := by omega
                have j2 : (k : Int) < (R2.size : Int) := by omega
                have hq0 : ([((a : Int), R0), ((b : Int), R1), ((c : Int), R2)] : List (Int × ByteArray))[0]? = some ((a : Int), R0) := rfl
                have hq1 : ([((a : Int), R0), ((b : Int), R1), ((c : Int), R2)] : List (Int × ByteArray))[1]? = some ((b : Int), R1) := rfl
                have hq2 : ([((a : Int), R0), ((b : Int), R1), ((c : Int), R2)] : List (Int × ByteArray))[2]? = some ((c : Int), R2) := rfl
                have eF : Gf.nth F (Q0 + k) = Gf.atk [a, b, c] [(R0[k]).toNat, (R1[k]).toNat, (R2[k]).toNat] X 3 := by
                  rw [HQ.out, hnF.out.1 h1 hX3 hkn, toN_nth _ _ m0, toN_nth _ _ m1, toN_nth _ _ m2]
                have yy := bF.at_ (Q0 + k)
                rw [eF] at yy
                have HE := Lib.hid eF
                have rX := oX.rg
                clear eF
                go_wp2_with fail
                replace sz3 : C < wr.drew.heap.size := sz3
                replace rX := rX.drew
                replace pA := pA.drew
                replace oB := oB.drew
                replace bW := bW.drew
                replace oX := oX.drew
                refine wp_region_held_drew (S := fun w' => Below wr.drew.heap.size wr.drew w') (by kernel_rfl) (Below.refl _ _) (fun hH => ?_)
                generalize wr.drew = x0 at *
                refine tkH (v := ?_) (i := 0) rfl (by kernel_rfl) (by kernel_rfl) (by kernel_rfl) (fun _ _ _ h => h) hH (Or.inl ⟨by rfl, ?_⟩) ?_
                rotate_left
                · intro wq hq
                  go_simp
                  try rfl
                try simp only [Act.put, List.setIfInBounds_toArray, List.set_cons_zero, List.set_cons_succ]
                refine tkH (v := ?_) (i := 1) rfl (by kernel_rfl) (by kernel_rfl) (by kernel_rfl) (fun _ _ _ h => h) hH (Or.inl ⟨by rfl, ?_⟩) ?_
                rotate_left
                · intro wq hq
                  go_simp
                  try rfl
                try simp only [Act.put, List.setIfInBounds_toArray, List.set_cons_zero, List.set_cons_succ]
                refine tkH (v := ?_) (i := 2) rfl (by kernel_rfl) (by kernel_rfl) (by kernel_rfl) (fun _ _ _ h => h) hH (Or.inl ⟨by rfl, ?_⟩) ?_
                rotate_left
                · intro wq hq
                  go_simp
                  try rfl
                try simp only [Act.put, List.setIfInBounds_toArray, List.set_cons_zero, List.set_cons_succ]
                refine tkH (v := ?_) (i := 3) rfl (by kernel_rfl) (by kernel_rfl) (by kernel_rfl) (fun _ _ _ h => h) hH (Or.inl ⟨by rfl, ?_⟩) ?_
                rotate_left
                · intro wq hq
                  go_simp
                  try rfl
                try simp only [Act.put, List.setIfInBounds_toArray, List.set_cons_zero, List.set_cons_succ]
                refine tkH (v := ?_) (i := 4) rfl (by kernel_rfl) (by kernel_rfl) (by kernel_rfl) (fun _ _ _ h => h) hH (Or.inl ⟨by rfl, ?_⟩) ?_
                rotate_left
                · intro wq hq
                  obtain ⟨qa, qb⟩ := (pA.below hq) 0 _ hq0
                  simp only [Nat.zero_add, Nat.zero_mul, Nat.reduceMul, Nat.reduceAdd] at qa qb
                  go_simp
                  try rfl
                try simp only [Act.put, List.setIfInBounds_toArray, List.set_cons_zero, List.set_cons_succ]
                refine tkH (v := ?_) (i := 5) rfl (by kernel_rfl) (by kernel_rfl) (by kernel_rfl) (fun _ _ _ h => h) hH (Or.inl ⟨by rfl, ?_⟩) ?_
                rotate_left
                · intro wq hq
                  go_simp
                  try rfl
                try simp only [Act.put, List.setIfInBounds_toArray, List.set_cons_zero, List.set_cons_succ]
                refine tkH (v := ?_) (i := 6) rfl (by kernel_rfl) (by kernel_rfl) (by kernel_rfl) (fun _ _ _ h => h) hH (Or.inl ⟨by rfl, ?_⟩) ?_
                rotate_left
                · intro wq hq
                  go_simp
                  try rfl
                try simp only [Act.put, List.setIfInBounds_toArray, List.set_cons_zero, List.set_cons_succ]
                refine tkH (v := ?_) (i := 7) rfl (by kernel_rfl) (by kernel_rfl) (by kernel_rfl) (fun _ _ _ h => h) hH (Or.inl ⟨by rfl, ?_⟩) ?_
                rotate_left
                · intro wq hq
                  go_simp
                  try rfl
                try simp only [Act.put, List.setIfInBounds_toArray, List.set_cons_zero, List.set_cons_succ]
                refine tkH (v := ?_) (i := 8) rfl (by kernel_rfl) (by kernel_rfl) (by kernel_rfl) (fun _ _ _ h => h) hH (Or.inl ⟨by rfl, ?_⟩) ?_
                rotate_left
                · intro wq hq
                  go_simp
                  try rfl
                try simp only [Act.put, List.setIfInBounds_toArray, List.set_cons_zero, List.set_cons_succ]
                refine tkH (v := ?_) (i := 9) rfl (by kernel_rfl) (by kernel_rfl) (by kernel_rfl) (fun _ _ _ h => h) hH (Or.inl ⟨by rfl, ?_⟩) ?_
                rotate_left
                · intro wq hq
                  go_simp
                  try rfl
                try simp only [Act.put, List.setIfInBounds_toArray, List.set_cons_zero, List.set_cons_succ]
                refine tkH (v := ?_) (i := 10) rfl (by kernel_rfl) (by kernel_rfl) (by kernel_rfl) (fun _ _ _ h => h) hH (Or.inl ⟨by rfl, ?_⟩) ?_
                rotate_left
                · intro wq hq
                  obtain ⟨qa, qb⟩ := (pA.below hq) 1 _ hq1
                  simp only [Nat.zero_add, Nat.zero_mul, Nat.reduceMul, Nat.reduceAdd] at qa qb
                  go_simp
                  try rfl
                try simp only [Act.put, List.setIfInBounds_toArray, List.set_cons_zero, List.set_cons_succ]
                refine tkH (v := ?_) (i := 11) rfl (by kernel_rfl) (by kernel_rfl) (by kernel_rfl) (fun _ _ _ h => h) hH (Or.inl ⟨by rfl, ?_⟩) ?_
                rotate_left
                · intro wq hq
                  go_simp
                  try rfl
                try simp only [Act.put, List.setIfInBounds_toArray, List.set_cons_zero, List.set_cons_succ]
                refine tkH (v := ?_) (i := 12) rfl (by kernel_rfl) (by kernel_rfl) (by kernel_rfl) (fun _ _ _ h => h) hH (Or.inl ⟨by rfl, ?_⟩) ?_
                rotate_left
                · intro wq hq
                  go_simp
                  try rfl
                try simp only [Act.put, List.setIfInBounds_toArray, List.set_cons_zero, List.set_cons_succ]
                refine tkH (v := ?_) (i := 13) rfl (by kernel_rfl) (by kernel_rfl) (by kernel_rfl) (fun _ _ _ h => h) hH (Or.inl ⟨by rfl, ?_⟩) ?_
                rotate_left
                · intro wq hq
                  go_simp
                  try rfl
                try simp only [Act.put, List.setIfInBounds_toArray, List.set_cons_zero, List.set_cons_succ]
                refine tkH (v := ?_) (i := 14) rfl (by kernel_rfl) (by kernel_rfl) (by kernel_rfl) (fun _ _ _ h => h) hH (Or.inl ⟨by rfl, ?_⟩) ?_
                rotate_left
                · intro wq hq
                  go_simp
                  try rfl
                try simp only [Act.put, List.setIfInBounds_toArray, List.set_cons_zero, List.set_cons_succ]
                refine tkH (v := ?_) (i := 15) rfl (by kernel_rfl) (by kernel_rfl) (by kernel_rfl) (fun _ _ _ h => h) hH (Or.inl ⟨by rfl, ?_⟩) ?_
                rotate_left
                · intro wq hq
                  go_simp
                  try rfl
                try simp only [Act.put, List.setIfInBounds_toArray, List.set_cons_zero, List.set_cons_succ]
                refine tkH (v := ?_) (i := 16) rfl (by kernel_rfl) (by kernel_rfl) (by kernel_rfl) (fun _ _ _ h => h) hH (Or.inl ⟨by rfl, ?_⟩) ?_
                rotate_left
                · intro wq hq
                  obtain ⟨qa, qb⟩ := (pA.below hq) 2 _ hq2
                  simp only [Nat.zero_add, Nat.zero_mul, Nat.reduceMul, Nat.reduceAdd] at qa qb
                  go_simp
                  try rfl
                try simp only [Act.put, List.setIfInBounds_toArray, List.set_cons_zero, List.set_cons_succ]
                refine tkH (v := ?_) (i := 17) rfl (by kernel_rfl) (by kernel_rfl) (by kernel_rfl) (fun _ _ _ h => h) hH (Or.inl ⟨by rfl, ?_⟩) ?_
                rotate_left
                · intro wq hq
                  go_simp
                  try rfl
                try simp only [Act.put, List.setIfInBounds_toArray, List.set_cons_zero, List.set_cons_succ]
                refine tkH (v := ?_) (i := 18) rfl (by kernel_rfl) (by kernel_rfl) (by kernel_rfl) (fun _ _ _ h => h) hH (Or.inl ⟨by rfl, ?_⟩) ?_
                rotate_left
                · intro wq hq
                  go_simp
                  try rfl
                try simp only [Act.put, List.setIfInBounds_toArray, List.set_cons_zero, List.set_cons_succ]
                refine tkH (v := ?_) (i := 20) rfl (by kernel_rfl) (by kernel_rfl) (by kernel_rfl) (fun _ _ _ h => h) hH (Or.inl ⟨by rfl, ?_⟩) ?_
                rotate_left
                · intro wq hq
                  go_simp
                  try rfl
                try simp only [Act.put, List.setIfInBounds_toArray, List.set_cons_zero, List.set_cons_succ]
                refine tkH (v := ?_) (i := 21) rfl (by kernel_rfl) (by kernel_rfl) (by kernel_rfl) (fun _ _ _ h => h) hH (Or.inl ⟨by rfl, ?_⟩) ?_
                rotate_left
                · intro wq hq
                  go_simp
                  try rfl
                try simp only [Act.put, List.setIfInBounds_toArray, List.set_cons_zero, List.set_cons_succ]
                refine efH (i := 19) rfl (by kernel_rfl) (by rfl) (fun KK hKK => ?_)
                go_simp
                refine hKK.out _ _ (hH.alloc hH.size _) (fun hH => ?_)
                clear hKK KK
                try simp only [Act.put, List.setIfInBounds_toArray, List.set_cons_zero, List.set_cons_succ]
                have hbx := (rX.bs (Sx.three_bytes a8 b8 c8)).below hH
                have hby := bs_three (Own.new x0 5 #[.int .u8 ((R0[k]).toNat : Int), .int .u8 ((R1[k]).toNat : Int), .int .u8 ((R2[k]).toNat : Int)]) (R0[k]).toNat_lt (R1[k]).toNat_lt (R2[k]).toNat_lt
                refine efH (i := 22) rfl (by kernel_rfl) (by rfl) (fun KK hKK => ?_)
                go_simp
                refine (rat_any _ _ 3 3 3 3 [a, b, c] [(R0[k]).toNat, (R1[k]).toNat, (R2[k]).toNat] X _ hX8 (by omega) (by omega) hbx hby).mono ?_
                rintro e w7 ⟨he, hd⟩
                have hH' := hH.trans (hd.below.mono hH.size)
                obtain rfl := hAt _ _ _ _ _ he
                go_wp2_with fail
                refine hKK.out _ _ hH' (fun hH => ?_)
                clear hKK KK hH'
                try simp only [Act.put, List.setIfInBounds_toArray, List.set_cons_zero, List.set_cons_succ]
                refine tkH (v := ?_) (i := 23) rfl (by kernel_rfl) (by kernel_rfl) (by kernel_rfl) (fun _ _ _ h => h) hH (Or.inl ⟨by rfl, ?_⟩) ?_
                rotate_left
                · intro wq hq
                  go_simp
                  try rfl
                try simp only [Act.put, List.setIfInBounds_toArray, List.set_cons_zero, List.set_cons_succ]
                refine tkH (v := ?_) (i := 24) rfl (by kernel_rfl) (by kernel_rfl) (by kernel_rfl) (fun _ _ _ h => h) hH (Or.inl ⟨by rfl, ?_⟩) ?_
                rotate_left
                · intro wq hq
                  go_simp
                  try rfl
                try simp only [Act.put, List.setIfInBounds_toArray, List.set_cons_zero, List.set_cons_succ]
                refine tkH (v := ?_) (i := 25) rfl (by kernel_rfl) (by kernel_rfl) (by kernel_rfl) (fun _ _ _ h => h) hH (Or.inl ⟨by rfl, ?_⟩) ?_
                rotate_left
                · intro wq hq
                  go_simp
                  try rfl
                try simp only [Act.put, List.setIfInBounds_toArray, List.set_cons_zero, List.set_cons_succ]
                refine tkH (v := ?_) (i := 26) rfl (by kernel_rfl) (by kernel_rfl) (by kernel_rfl) (fun _ _ _ h => h) hH (Or.inl ⟨by rfl, ?_⟩) ?_
                rotate_left
                · intro wq hq
                  go_simp
                  try rfl
                try simp only [Act.put, List.setIfInBounds_toArray, List.set_cons_zero, List.set_cons_succ]
                refine tkH (v := ?_) (i := 27) rfl (by kernel_rfl) (by kernel_rfl) (by kernel_rfl) (fun _ _ _ h => h) hH (Or.inl ⟨by rfl, ?_⟩) ?_
                rotate_left
                · intro wq hq
                  go_simp
                  try rfl
                try simp only [Act.put, List.setIfInBounds_toArray, List.set_cons_zero, List.set_cons_succ]
                refine wpAnyH_done (by kernel_rfl) ?_ _
                try simp only [Act.put, List.getElem_toArray, List.getElem_cons_zero, List.getElem_cons_succ, List.setIfInBounds_toArray, List.set_cons_zero, List.set_cons_succ]
                replace bW := bW.trans (hH.mono bW.size)
                replace pA := pA.below hH
                replace rX := rX.below hH
                replace oB := oB.below hH
                replace oX := oX.below hH
                have sz4 := hH.size
                have hw7 := bW.size
                clear hH he hbx hby hd rX
                go_wp2_with (at_builtin; refine app_byte2 rfl _ _ rfl C _ (Q0 + k) c' _ rfl (oB.alloc _) w7.heap.size (Gf.atk [a, b, c] [(R0[k]).toNat, (R1[k]).toNat, (R2[k]).toNat] X 3) 1 rfl ?c1 yy (by omega) ?c3 (w7.heap.size + 1) ?c4 ?_; go_must (case c1 => simp [bv]); go_must (case c3 => (simp; omega)); go_must (case c4 => simp); intro g5 c5 w8 r8 b8)
                have kA := (Below.refl w7.heap.size w7).alloc (Nat.le_refl _) (Obj.cells #[.int .u8 ((Gf.atk [a, b, c] [(R0[k]).toNat, (R1[k]).toNat, (R2[k]).toNat] X 3 : Nat) : Int)] 5)
                have sz8 := b8.size
                rw [World.size_alloc] at sz8
                go_roundw
                case rel =>
                  refine ⟨k + 1, g5, c5, by omega, by go_num, rfl, ?_, (oX.below kA).belowB b8 hX2, (pA.below kA).belowB b8 (by omega), (bW.trans (kA.mono hw7)).trans (b8.mono hwG), by omega⟩
                  rw [show Q0 + (k + 1) = Q0 + k + 1 from rfl, take_snoc (by rw [lF]; omega), HE.out]
                  exact r8
                case measure => first | (simp [intOf]; done) | (simp [intOf]; omega)
              · have hkn' : k = n := by omega
                have eQ : (X + 1 - 1) * n = Q0 + k := by
                  have := HQ.out
                  rw [hkn', this, show X + 1 - 1 = X - 1 + 1 from by omega, Nat.add_mul, Nat.one_mul]
                have k0 : decide ((k : Int) < (n : Int)) = false := by simp; omega
                have HQ2 := Lib.hid eQ
                clear hkn' eQ hk
                go_wp2_with fail
                go_roundw
                case rel => exact ⟨X + 1, A', c', by omega, by omega, by go_num, by rw [HQ2.out], by rw [HQ2.out]; exact oB, oX, pA, bW, sz3⟩
                case measure => first | (simp [intOf]; done) | (simp [intOf]; omega)
          · obtain rfl : X = 4 := by omega
            have hcap := oB.cap
            have zc : (z : Int) ≤ (c' : Int) := by omega
            have zc' : z ≤ c' := by omega
            have lz : (F.take z).length = z := by rw [List.length_take, lF]; omega
            have rz : Rg wr A' 0 (F.take z) := by
              have h := oB.rg
              rw [List.take_of_length_le (by rw [lF]; omega), ← List.take_append_drop z F] at h
              exact h.left
            have hcv := conv_bs wr A' 0 (F.take z) z c' lz rz
            clear hcap rz
            go_wp2_with fail
            go_ret2
            exact ⟨rfl, bW⟩
      · have e : joined l (z : Int) = (⟨#[]⟩, code) := by rw [hJ, if_pos hc]
        rw [e]
        have t1 : ((code : Int) != 0) = true := by rw [bne_iff_ne]; omega
        have HC := Lib.hid (And.intro hg hc)
        clear hJ e hg hc
        go_enter Try.func16, Try.ntmps16
        go_wp2_with (first | (go_at_call 14; refine (hr _).mono ?_; rintro e w' ⟨rfl, rfl⟩) | (go_at_call 23; refine hf.mono ?_; rintro e w1 ⟨g, cg, rfl, oP, bW⟩))
        go_ret2
        exact ⟨rfl, bW⟩
end Go.Proofs.Ytgfnpemonpebpaa
