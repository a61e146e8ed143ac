/-
  A box one of whose bytes is bent is not opened, as far as the tag's texts have not one digest.
-/
import Derived.Test.YtaoaebdjinlcnaaDoorVk
import Derived.Great.BuildSlice
import Derived.Great.FillDense
import Derived.OwnWalk
import Derived.Deep.AppendLies
import Derived.Maps.AppendAt
namespace Go.Proofs.YtaoaebdjinlcnaaDoor
set_option linter.unusedVariables false
set_option linter.unusedSimpArgs false
set_option maxRecDepth 100000
open Go.RowKit
namespace Rd
def vl (K : List Nat) : List Value := (vs .u8 K).toList
theorem vl_length (K : List Nat) : (vl K).length = K.length := by simp [vl, vs]
theorem vl_append (a b : List Nat) : vl (a ++ b) = vl a ++ vl b := by simp [vl, vs]
theorem vl_one (K : List Nat) : ∀ u ∈ vl K, u.oneCell' = true := fun u hu => by
  simp [vl, vs] at hu
  obtain ⟨k, _, rfl⟩ := hu
  rfl
theorem info64 : (Tryd.prog.info? 64).map (fun i => (i.zero, i.size, i.bytes)) = some (some (.agg (vs .u8 (List.replicate 32 0))), 32, 32) := by kernel_rfl
theorem info64p : ∃ i z, Tryd.prog.info? 64 = some i ∧ i.zero = some z ∧ i.size = 32 ∧ i.bytes = 32 ∧ z.cells.size = 32 := by
  obtain ⟨i, hi, hzz⟩ := Option.map_eq_some_iff.1 info64
  simp only [Prod.mk.injEq] at hzz
  exact ⟨i, _, hi, hzz.1, hzz.2.1, hzz.2.2, by simp [Value.cells, vs]⟩
/-- one digest as a literal row -/
theorem run_lit1 (K : List Nat) (h : K.length = 32) (w : World) : (Instr.buildSlice 67 1 #[(0, .agg (vs .u8 K))]).run Tryd.prog w = .ok (.slice (some ⟨w.heap.size, 0, none⟩) 1 1) (w.alloc (.cells (vs .u8 K) 64)) := by
  obtain ⟨i, z, hi, hz, hs, _, hzs⟩ := info64p
  refine run_buildSlice w 67 64 1 #[(0, .agg (vs .u8 K))] (vs .u8 K) i z Tryd.underlying67 hi hz (by rw [hs]; omega) (by rw [hs]; omega) ?_
  rw [hs]
  have e := Go.Great.fill_whole (s := 32) (by omega) [Value.agg (vs .u8 K)] ((Array.range (1 * 32)).map (z.cells[· % z.cells.size]!)) (fun v hv => by
    obtain rfl := List.mem_singleton.1 hv
    exact (vs_size .u8 K).trans h) (by simp)
  have e2 : ([Value.agg (vs .u8 K)].zipIdx 0).map (fun x => (x.2, x.1)) = [(0, Value.agg (vs .u8 K))] := rfl
  rw [e2] at e
  rw [show (#[(0, Value.agg (vs .u8 K))] : Array (Nat × Value)).toList = [(0, Value.agg (vs .u8 K))] from rfl, e]
  simp [Value.cells]
theorem wlit {o : Oper} {a : Act} {w : World} {KK : Act → World → Prop} {Q : Exit → Act → World → Prop} {x : Operand} {K : List Nat} (ho : o.op = .buildSlice 67 1 #[(0, x)]) (hx : a.eval x = .agg (vs .u8 K)) (h32 : K.length = 32)
    (h : KK (a.put o.dst (.slice (some ⟨w.heap.size, 0, none⟩) 1 1)) (w.alloc (.cells (vs .u8 K) 64))) : o.wp Tryd.prog a w KK Q := by
  have e := run_lit1 K h32 w
  have e2 : ((#[((0 : Nat), x)] : Array (Nat × Operand)).map fun (i, x) => (i, a.eval x)) = #[(0, .agg (vs .u8 K))] := by simp [hx]
  unfold Oper.wp execOp
  simp only [ho]
  rw [e2]
  simp [e, Result.andThen]
  exact h
/-- a row of the call's own, of these digests -/
def RS (w : World) (B : Nat) (A : Option Addr) (n cap : Nat) (l : List (List Nat)) : Prop := l.length = n ∧ (∀ s ∈ l, s.length = 32) ∧ w.ownsRow B 64 32 (.slice A n cap) n (vl l.flatten)
theorem RS.nil (w : World) (B : Nat) : RS w B none 0 0 [] := ⟨rfl, (fun _ hy => nomatch hy), w.ownsRow_nil B 64 32⟩
theorem RS.form {w : World} {B : Nat} {A : Option Addr} {n cap : Nat} {l : List (List Nat)} (h : RS w B A n cap l) : (A = none ∧ n = 0) ∨ ∃ g, A = some ⟨g, 0, none⟩ ∧ B ≤ g ∧ g < w.heap.size := by
  rcases h.2.2.2 with ⟨h1, h2⟩ | ⟨g, c, cur, h1, h2, h3, _⟩
  · injection h1 with h1 _ _
    exact .inl ⟨h1, h2⟩
  · injection h1 with h1 _ _
    exact .inr ⟨g, h1, h2, lt_of_block h3⟩
theorem RS.below {w w' : World} {B : Nat} {A : Option Addr} {n cap : Nat} {l : List (List Nat)} (h : RS w B A n cap l) (hb : Below w.heap.size w w') : RS w' B A n cap l := by
  refine ⟨h.1, h.2.1, h.2.2.1, ?_⟩
  rcases h.2.2.2 with h' | ⟨g, c, cur, h1, h2, h3, h4⟩
  · exact .inl h'
  · exact .inr ⟨g, c, cur, h1, h2, (hb.block g (lt_of_block h3)).trans h3, h4⟩
/-- two digests of a row, as they lie -/
theorem RS.two {w : World} {B : Nat} {A : Option Addr} {cap : Nat} {x y : List Nat} (h : RS w B A 2 cap [x, y]) : ∃ g, A = some ⟨g, 0, none⟩ ∧ w.rangeAt g 0 (vl x) ∧ w.rangeAt g 32 (vl y) := by
  have hx : x.length = 32 := h.2.1 x (by simp)
  rcases h.2.2.2 with ⟨_, h2⟩ | ⟨g, c, cur, h1, h2, h3, _, _, hcs, ht⟩
  · omega
  · injection h1 with h1 _ _
    have key : w.rangeAt g 0 (vl x ++ vl y) := fun j v hj => by
      have e : vl [x, y].flatten = vl x ++ vl y := by simp [vl_append]
      rw [← e, ← ht] at hj
      have hlt : j < 2 * 32 := by
        have := (List.getElem?_eq_some_iff.1 hj).1
        rw [List.length_take] at this
        omega
      rw [List.getElem?_take, if_pos hlt] at hj
      rw [Nat.zero_add, cell_of_row w g j cur 64 (0, 0) h3]
      simpa using hj
    refine ⟨g, h1, fun j v hj => key j v ?_, fun j v hj => ?_⟩
    · have hlt := (List.getElem?_eq_some_iff.1 hj).1
      rw [List.getElem?_append_left hlt]; exact hj
    · have := key (32 + j) v (by rw [List.getElem?_append_right (by rw [vl_length, hx]; omega), vl_length, hx, Nat.add_sub_cancel_left]; exact hj)
      rw [Nat.zero_add] at this
      exact this
/-- one digest more -/
theorem wapp {w : World} {o : Oper} {a : Act} {KK : Act → World → Prop} {Q : Exit → Act → World → Prop} (s x : Operand)
    (ho : o.op = .call { callee := .builtin .append, args := #[s, x], argTypes := #[67, 67] })
    (B : Nat) (A : Option Addr) (n cap : Nat) (l : List (List Nat)) (hs : a.eval s = .slice A n cap) (hr : RS w B A n cap l)
    (g1 c : Nat) (y : List Nat) (hx : a.eval x = .slice (some ⟨g1, 0, none⟩) 1 c) (hy : w.rangeAt g1 0 (vl y)) (hyl : y.length = 32) (hn : n ≤ 1000) (hB : B ≤ w.heap.size)
    (h : ∀ g cap' w', RS w' B (some ⟨g, 0, none⟩) (n + 1) cap' (l ++ [y]) → Below B w w' →
      KK (a.put o.dst (.slice (some ⟨g, 0, none⟩) (n + 1) cap')) w') : o.wp Tryd.prog a w KK Q := by
  obtain ⟨i0, z, hi, hz0, hz1, hz2, hzs⟩ := info64p
  refine wp_append_lies w s x 67 ho B 64 i0 z 32 32 Tryd.underlying67 hi hz0 hz1 hz2 hzs (by decide) _ n (vl l.flatten) hs hr.2.2 ⟨g1, 0, none⟩ 1 c (vl y) hx (by rw [vl_length, hyl]) ?_ (vl_one y) (by omega)
    (by unfold maxLen; omega) (by omega) hB _ rfl ?_
  · intro j u hu
    have := hy j u hu
    rw [Nat.zero_add] at this
    rw [Addr.add_mid, Nat.zero_add]
    exact this
  · intro g cap' w' h1 h2 h3 _
    refine h g cap' w' ⟨by simp [hr.1], ?_, ?_⟩ ?_
    · intro t ht
      rcases List.mem_append.1 ht with ht | ht
      · exact hr.2.1 t ht
      · simp at ht; subst ht; exact hyl
    · rw [List.flatten_append, vl_append]
      simpa using h1
    · refine (Below.refl B w).grown h2 hB fun k hk => ?_
      rcases hr.form with ⟨rfl, _⟩ | ⟨g', rfl, hg', _⟩
      · simp [Value.ownBlock] at hk
      · simp [Value.ownBlock] at hk
        omega
end Rd
end Go.Proofs.YtaoaebdjinlcnaaDoor
namespace Go.Proofs.YtaoaebdjinlcnaaDoor
set_option linter.unusedVariables false
set_option linter.unusedSimpArgs false
set_option maxRecDepth 100000
open Go.RowKit
theorem yl64 {ops : Array Oper} {X : World → Prop} {o : Oper} {a : Act} (hw : Region.wanted o (yielded ops a.tmps) = true) (x : Operand) (ho : o.op = .load 64 x) (g off : Nat)
    (hx : a.eval x = .pointer (some ⟨g, off, none⟩)) (D : List Nat) (hS : ∀ w, X w → w.rangeAt g off (Rd.vl D)) (hl : D.length = 32) : YieldsIf Tryd.prog ops X o (.agg (vs .u8 D)) a :=
  yieldsIf_load_mid hw 64 x ho g off hx (vs .u8 D).toList _ hS Tryd.underlying64 rfl (by rw [Array.length_toList, vs_size, hl]; kernel_rfl)
/-- texts and digests, as they lie -/
abbrev SU (w : World) (g gd : Nat) (x y : ByteArray) (Dx Dy : List Nat) (V : World) : Prop :=
  V.cell? ⟨g, 0, none⟩ = some (.string x) ∧ V.cell? ⟨g, 1, none⟩ = some (.string y) ∧ V.rangeAt gd 0 (Rd.vl Dx) ∧ V.rangeAt gd 32 (Rd.vl Dy) ∧ Below w.heap.size w V
theorem SU.drew {w : World} {g gd : Nat} {x y : ByteArray} {Dx Dy : List Nat} {V : World} (h : SU w g gd x y Dx Dy V) : SU w g gd x y Dx Dy V.drew := ⟨h.1, h.2.1, h.2.2.1, h.2.2.2.1, h.2.2.2.2.drew⟩
/-- where the digests are one, the texts are -/
def apt (x y : ByteArray) (Dx Dy : List Nat) : Bool := !(decide (Dy = Dx)) || (y.toList == x.toList)
theorem exec_eqb (L M : List Nat) (hl : L.length = 32) (hm : M.length = 32) (b : Bool) (hb : decide (L = M) = b) (w : World) (ρ : Operand → Value) (x y : Operand) (hx : ρ x = .agg (vs .u8 L)) (hy : ρ y = .agg (vs .u8 M)) (o : Oper) (ho : o.op = .binOp .eql 64 x y 64) :
    (execOp ρ o).run Tryd.prog w = .ok (.value (.bool b)) w := by
  have := exec_eq L M hl hm w ρ x y hx hy o ho
  rw [hb] at this
  exact this
set_option maxHeartbeats 4000000 in
theorem unlike_any (g gd cap : Nat) (x y : ByteArray) (Dx Dy : List Nat) (lx : Dx.length = 32) (ly : Dy.length = 32) (w : World) (h : SU w g gd x y Dx Dy w) :
    Calls Tryd.prog 46 #[.slice (some ⟨g, 0, none⟩) 2 2, .slice (some ⟨gd, 0, none⟩) 2 cap] w fun e w' => e = .returned (.bool (apt x y Dx Dy)) ∧ Below w.heap.size w w' := by
  go_enter Tryd.func46, Tryd.ntmps46
  go_wp2_with fail
  go_loopw [5, 6] (fun s5 _ wr => ∃ i : Nat, i ≤ 2 ∧ s5 = .int .i64 (i : Int) ∧ (i = 2 → apt x y Dx Dy = true) ∧ SU w g gd x y Dx Dy wr) (fun s5 _ _ => 2 - (intOf s5).toNat)
  case atStart => exact ⟨0, by omega, rfl, (fun e => by cases e), h⟩
  case round =>
    clear h
    obtain ⟨i, hi, rfl, hap2, hs⟩ := hrel
    match i, hi, hap2 with
    | 0, _, _ =>
      go_wp2_with fail
      go_loopw [6] (fun s6 wr2 => s6 = .int .i64 0 ∧ SU w g gd x y Dx Dy wr2) (fun _ _ => 0)
      case atStart => exact ⟨rfl, hs⟩
      case round =>
        clear hs
        obtain ⟨rfl, hs⟩ := hrel
        go_wp2_with fail
        exact ⟨⟨1, by omega, rfl, (fun e => by cases e), hs⟩, by simp [intOf]⟩
    | 1, _, _ =>
      go_wp2_with fail
      go_loopw [6] (fun s6 wr2 => ∃ k : Nat, k ≤ 1 ∧ s6 = .int .i64 (k : Int) ∧ (k = 1 → apt x y Dx Dy = true) ∧ SU w g gd x y Dx Dy wr2) (fun s6 _ => 1 - (intOf s6).toNat)
      case atStart => exact ⟨0, by omega, rfl, (fun e => by cases e), hs⟩
      case round =>
        clear hs
        obtain ⟨k, hk, rfl, hap1, hs⟩ := hrel
        match k, hk, hap1 with
        | 0, _, _ =>
          by_cases hd : Dy = Dx
          · have hd1 : decide (Dy = Dx) = true := decide_eq_true hd
            by_cases he : y = x
            · have he1 := str_yes he
              have hap : apt x y Dx Dy = true := by unfold apt; rw [he1]; simp
              clear hd he
              go_upto_region 7 with fail
              refine wp_region_held_drew (S := fun V => SU w g gd x y Dx Dy V) (by kernel_rfl) hs.drew (fun hHeld => ?_)
              clear hs
              generalize wr.drew = Y0 at *
              refine wpAnyH_take (i := 0) (oi := { dst := some 18, op := Op.move (Operand.tmp 1), type := _, pos := _, after := _, guard := _ }) (v := ?_) rfl (by kernel_rfl) (by kernel_rfl) (by kernel_rfl) (fun _ _ _ h => h) (Or.inl ⟨by rfl, ?_⟩) hHeld ?_
              rotate_left
              · intro wq hSw
                go_simp
                rfl
              try simp only [Act.put, List.setIfInBounds_toArray, List.set_cons_zero, List.set_cons_succ]
              refine wpAnyH_take (i := 1) (oi := { dst := some 19, op := Op.move (Operand.tmp 5), type := _, pos := _, after := _, guard := _ }) (v := ?_) rfl (by kernel_rfl) (by kernel_rfl) (by kernel_rfl) (fun _ _ _ h => h) (Or.inl ⟨by rfl, ?_⟩) hHeld ?_
              rotate_left
              · intro wq hSw
                go_simp
                rfl
              try simp only [Act.put, List.setIfInBounds_toArray, List.set_cons_zero, List.set_cons_succ]
              refine wpAnyH_take (i := 2) (oi := { dst := some 20, op := Op.indexAddr 67 (Operand.tmp 18) (Operand.tmp 19), type := _, pos := _, after := _, guard := _ }) (v := ?_) rfl (by kernel_rfl) (by kernel_rfl) (by kernel_rfl) (fun _ _ _ h => h) (Or.inl ⟨by rfl, ?_⟩) hHeld ?_
              rotate_left
              · intro wq hSw
                go_simp
                rfl
              try simp only [Act.put, List.setIfInBounds_toArray, List.set_cons_zero, List.set_cons_succ]
              refine wpAnyH_take (i := 3) (oi := { dst := some 21, op := Op.load 64 (Operand.tmp 20), type := _, pos := _, after := _, guard := _ }) rfl (by kernel_rfl) (by kernel_rfl) (by kernel_rfl) (fun _ _ _ h => h) (yl64 (by rfl) _ rfl gd 32 rfl Dy (fun w1 h => h.2.2.2.1) ly) hHeld ?_
              try simp only [Act.put, List.setIfInBounds_toArray, List.set_cons_zero, List.set_cons_succ]
              refine wpAnyH_take (i := 4) (oi := { dst := some 22, op := Op.move (Operand.tmp 1), type := _, pos := _, after := _, guard := _ }) (v := ?_) rfl (by kernel_rfl) (by kernel_rfl) (by kernel_rfl) (fun _ _ _ h => h) (Or.inl ⟨by rfl, ?_⟩) hHeld ?_
              rotate_left
              · intro wq hSw
                go_simp
                rfl
              try simp only [Act.put, List.setIfInBounds_toArray, List.set_cons_zero, List.set_cons_succ]
              refine wpAnyH_take (i := 5) (oi := { dst := some 23, op := Op.move (Operand.tmp 6), type := _, pos := _, after := _, guard := _ }) (v := ?_) rfl (by kernel_rfl) (by kernel_rfl) (by kernel_rfl) (fun _ _ _ h => h) (Or.inl ⟨by rfl, ?_⟩) hHeld ?_
              rotate_left
              · intro wq hSw
                go_simp
                rfl
              try simp only [Act.put, List.setIfInBounds_toArray, List.set_cons_zero, List.set_cons_succ]
              refine wpAnyH_take (i := 6) (oi := { dst := some 24, op := Op.indexAddr 67 (Operand.tmp 22) (Operand.tmp 23), type := _, pos := _, after := _, guard := _ }) (v := ?_) rfl (by kernel_rfl) (by kernel_rfl) (by kernel_rfl) (fun _ _ _ h => h) (Or.inl ⟨by rfl, ?_⟩) hHeld ?_
              rotate_left
              · intro wq hSw
                go_simp
                rfl
              try simp only [Act.put, List.setIfInBounds_toArray, List.set_cons_zero, List.set_cons_succ]
              refine wpAnyH_take (i := 7) (oi := { dst := some 25, op := Op.load 64 (Operand.tmp 24), type := _, pos := _, after := _, guard := _ }) rfl (by kernel_rfl) (by kernel_rfl) (by kernel_rfl) (fun _ _ _ h => h) (yl64 (by rfl) _ rfl gd 0 rfl Dx (fun w1 h => h.2.2.1) lx) hHeld ?_
              try simp only [Act.put, List.setIfInBounds_toArray, List.set_cons_zero, List.set_cons_succ]
              refine wpAnyH_take (i := 8) (oi := { dst := some 26, op := Op.binOp BinOp.eql 64 (Operand.tmp 21) (Operand.tmp 25) 64, type := _, pos := _, after := _, guard := _ }) rfl (by kernel_rfl) (by kernel_rfl) (by kernel_rfl) (fun _ _ _ h => h) ((Or.inl ⟨by kernel_rfl, fun wq hSw => exec_eqb Dy Dx ly lx true hd1 wq _ _ _ rfl rfl _ rfl⟩)) hHeld ?_
              try simp only [Act.put, List.setIfInBounds_toArray, List.set_cons_zero, List.set_cons_succ]
              refine wpAnyH_take (i := 9) (oi := { dst := some 27, op := Op.move (Operand.tmp 26), type := _, pos := _, after := _, guard := _ }) (v := ?_) rfl (by kernel_rfl) (by kernel_rfl) (by kernel_rfl) (fun _ _ _ h => h) (Or.inl ⟨by rfl, ?_⟩) hHeld ?_
              rotate_left
              · intro wq hSw
                go_simp
                rfl
              try simp only [Act.put, List.setIfInBounds_toArray, List.set_cons_zero, List.set_cons_succ]
              refine wpAnyH_take (i := 10) (oi := { dst := some 28, op := Op.move (Operand.tmp 0), type := _, pos := _, after := _, guard := _ }) (v := ?_) rfl (by kernel_rfl) (by kernel_rfl) (by kernel_rfl) (fun _ _ _ h => h) (Or.inl ⟨by rfl, ?_⟩) hHeld ?_
              rotate_left
              · intro wq hSw
                go_simp
                rfl
              try simp only [Act.put, List.setIfInBounds_toArray, List.set_cons_zero, List.set_cons_succ]
              refine wpAnyH_take (i := 11) (oi := { dst := some 29, op := Op.move (Operand.tmp 5), type := _, pos := _, after := _, guard := _ }) (v := ?_) rfl (by kernel_rfl) (by kernel_rfl) (by kernel_rfl) (fun _ _ _ h => h) (Or.inl ⟨by rfl, ?_⟩) hHeld ?_
              rotate_left
              · intro wq hSw
                go_simp
                rfl
              try simp only [Act.put, List.setIfInBounds_toArray, List.set_cons_zero, List.set_cons_succ]
              refine wpAnyH_take (i := 12) (oi := { dst := some 30, op := Op.indexAddr 36 (Operand.tmp 28) (Operand.tmp 29), type := _, pos := _, after := _, guard := _ }) (v := ?_) rfl (by kernel_rfl) (by kernel_rfl) (by kernel_rfl) (fun _ _ _ h => h) (Or.inl ⟨by rfl, ?_⟩) hHeld ?_
              rotate_left
              · intro wq hSw
                go_simp
                rfl
              try simp only [Act.put, List.setIfInBounds_toArray, List.set_cons_zero, List.set_cons_succ]
              refine wpAnyH_take (i := 13) (oi := { dst := some 31, op := Op.load 9 (Operand.tmp 30), type := _, pos := _, after := _, guard := _ }) (v := ?_) rfl (by kernel_rfl) (by kernel_rfl) (by kernel_rfl) (fun _ _ _ h => h) (Or.inl ⟨by rfl, ?_⟩) hHeld ?_
              rotate_left
              · intro wq hSw
                have ty := hSw.2.1
                go_simp
                rfl
              try simp only [Act.put, List.setIfInBounds_toArray, List.set_cons_zero, List.set_cons_succ]
              refine wpAnyH_take (i := 14) (oi := { dst := some 32, op := Op.move (Operand.tmp 0), type := _, pos := _, after := _, guard := _ }) (v := ?_) rfl (by kernel_rfl) (by kernel_rfl) (by kernel_rfl) (fun _ _ _ h => h) (Or.inl ⟨by rfl, ?_⟩) hHeld ?_
              rotate_left
              · intro wq hSw
                go_simp
                rfl
              try simp only [Act.put, List.setIfInBounds_toArray, List.set_cons_zero, List.set_cons_succ]
              refine wpAnyH_take (i := 15) (oi := { dst := some 33, op := Op.move (Operand.tmp 6), type := _, pos := _, after := _, guard := _ }) (v := ?_) rfl (by kernel_rfl) (by kernel_rfl) (by kernel_rfl) (fun _ _ _ h => h) (Or.inl ⟨by rfl, ?_⟩) hHeld ?_
              rotate_left
              · intro wq hSw
                go_simp
                rfl
              try simp only [Act.put, List.setIfInBounds_toArray, List.set_cons_zero, List.set_cons_succ]
              refine wpAnyH_take (i := 16) (oi := { dst := some 34, op := Op.indexAddr 36 (Operand.tmp 32) (Operand.tmp 33), type := _, pos := _, after := _, guard := _ }) (v := ?_) rfl (by kernel_rfl) (by kernel_rfl) (by kernel_rfl) (fun _ _ _ h => h) (Or.inl ⟨by rfl, ?_⟩) hHeld ?_
              rotate_left
              · intro wq hSw
                go_simp
                rfl
              try simp only [Act.put, List.setIfInBounds_toArray, List.set_cons_zero, List.set_cons_succ]
              refine wpAnyH_take (i := 17) (oi := { dst := some 35, op := Op.load 9 (Operand.tmp 34), type := _, pos := _, after := _, guard := _ }) (v := ?_) rfl (by kernel_rfl) (by kernel_rfl) (by kernel_rfl) (fun _ _ _ h => h) (Or.inl ⟨by rfl, ?_⟩) hHeld ?_
              rotate_left
              · intro wq hSw
                have tx := hSw.1
                go_simp
                rfl
              try simp only [Act.put, List.setIfInBounds_toArray, List.set_cons_zero, List.set_cons_succ]
              refine wpAnyH_take (i := 18) (oi := { dst := some 36, op := Op.binOp BinOp.neq 9 (Operand.tmp 31) (Operand.tmp 35) 9, type := _, pos := _, after := _, guard := _ }) (v := ?_) rfl (by kernel_rfl) (by kernel_rfl) (by kernel_rfl) (fun _ _ _ h => h) (Or.inl ⟨by rfl, ?_⟩) hHeld ?_
              rotate_left
              · intro wq hSw
                go_simp
                rfl
              try simp only [Act.put, List.setIfInBounds_toArray, List.set_cons_zero, List.set_cons_succ]
              refine wpAnyH_take (i := 19) (oi := { dst := some 37, op := Op.pick (Operand.tmp 27) (Operand.tmp 36) (Operand.const (Value.bool false)), type := _, pos := _, after := _, guard := _ }) (v := ?_) rfl (by kernel_rfl) (by kernel_rfl) (by kernel_rfl) (fun _ _ _ h => h) (Or.inl ⟨by rfl, ?_⟩) hHeld ?_
              rotate_left
              · intro wq hSw
                go_simp
                rfl
              try simp only [Act.put, List.setIfInBounds_toArray, List.set_cons_zero, List.set_cons_succ]
              refine wpAnyH_done (by kernel_rfl) ?_ _
              go_wp2_with fail
              exact ⟨⟨1, by omega, rfl, (fun _ => hap), hHeld⟩, by simp [intOf]⟩
            · have he1 := str_no he
              have hap : apt x y Dx Dy = false := by unfold apt; rw [he1, hd1]; rfl
              clear hd he
              go_upto_region 7 with fail
              refine wp_region_held_drew (S := fun V => SU w g gd x y Dx Dy V) (by kernel_rfl) hs.drew (fun hHeld => ?_)
              clear hs
              generalize wr.drew = Y0 at *
              refine wpAnyH_take (i := 0) (oi := { dst := some 18, op := Op.move (Operand.tmp 1), type := _, pos := _, after := _, guard := _ }) (v := ?_) rfl (by kernel_rfl) (by kernel_rfl) (by kernel_rfl) (fun _ _ _ h => h) (Or.inl ⟨by rfl, ?_⟩) hHeld ?_
              rotate_left
              · intro wq hSw
                go_simp
                rfl
              try simp only [Act.put, List.setIfInBounds_toArray, List.set_cons_zero, List.set_cons_succ]
              refine wpAnyH_take (i := 1) (oi := { dst := some 19, op := Op.move (Operand.tmp 5), type := _, pos := _, after := _, guard := _ }) (v := ?_) rfl (by kernel_rfl) (by kernel_rfl) (by kernel_rfl) (fun _ _ _ h => h) (Or.inl ⟨by rfl, ?_⟩) hHeld ?_
              rotate_left
              · intro wq hSw
                go_simp
                rfl
              try simp only [Act.put, List.setIfInBounds_toArray, List.set_cons_zero, List.set_cons_succ]
              refine wpAnyH_take (i := 2) (oi := { dst := some 20, op := Op.indexAddr 67 (Operand.tmp 18) (Operand.tmp 19), type := _, pos := _, after := _, guard := _ }) (v := ?_) rfl (by kernel_rfl) (by kernel_rfl) (by kernel_rfl) (fun _ _ _ h => h) (Or.inl ⟨by rfl, ?_⟩) hHeld ?_
              rotate_left
              · intro wq hSw
                go_simp
                rfl
              try simp only [Act.put, List.setIfInBounds_toArray, List.set_cons_zero, List.set_cons_succ]
              refine wpAnyH_take (i := 3) (oi := { dst := some 21, op := Op.load 64 (Operand.tmp 20), type := _, pos := _, after := _, guard := _ }) rfl (by kernel_rfl) (by kernel_rfl) (by kernel_rfl) (fun _ _ _ h => h) (yl64 (by rfl) _ rfl gd 32 rfl Dy (fun w1 h => h.2.2.2.1) ly) hHeld ?_
              try simp only [Act.put, List.setIfInBounds_toArray, List.set_cons_zero, List.set_cons_succ]
              refine wpAnyH_take (i := 4) (oi := { dst := some 22, op := Op.move (Operand.tmp 1), type := _, pos := _, after := _, guard := _ }) (v := ?_) rfl (by kernel_rfl) (by kernel_rfl) (by kernel_rfl) (fun _ _ _ h => h) (Or.inl ⟨by rfl, ?_⟩) hHeld ?_
              rotate_left
              · intro wq hSw
                go_simp
                rfl
              try simp only [Act.put, List.setIfInBounds_toArray, List.set_cons_zero, List.set_cons_succ]
              refine wpAnyH_take (i := 5) (oi := { dst := some 23, op := Op.move (Operand.tmp 6), type := _, pos := _, after := _, guard := _ }) (v := ?_) rfl (by kernel_rfl) (by kernel_rfl) (by kernel_rfl) (fun _ _ _ h => h) (Or.inl ⟨by rfl, ?_⟩) hHeld ?_
              rotate_left
              · intro wq hSw
                go_simp
                rfl
              try simp only [Act.put, List.setIfInBounds_toArray, List.set_cons_zero, List.set_cons_succ]
              refine wpAnyH_take (i := 6) (oi := { dst := some 24, op := Op.indexAddr 67 (Operand.tmp 22) (Operand.tmp 23), type := _, pos := _, after := _, guard := _ }) (v := ?_) rfl (by kernel_rfl) (by kernel_rfl) (by kernel_rfl) (fun _ _ _ h => h) (Or.inl ⟨by rfl, ?_⟩) hHeld ?_
              rotate_left
              · intro wq hSw
                go_simp
                rfl
              try simp only [Act.put, List.setIfInBounds_toArray, List.set_cons_zero, List.set_cons_succ]
              refine wpAnyH_take (i := 7) (oi := { dst := some 25, op := Op.load 64 (Operand.tmp 24), type := _, pos := _, after := _, guard := _ }) rfl (by kernel_rfl) (by kernel_rfl) (by kernel_rfl) (fun _ _ _ h => h) (yl64 (by rfl) _ rfl gd 0 rfl Dx (fun w1 h => h.2.2.1) lx) hHeld ?_
              try simp only [Act.put, List.setIfInBounds_toArray, List.set_cons_zero, List.set_cons_succ]
              refine wpAnyH_take (i := 8) (oi := { dst := some 26, op := Op.binOp BinOp.eql 64 (Operand.tmp 21) (Operand.tmp 25) 64, type := _, pos := _, after := _, guard := _ }) rfl (by kernel_rfl) (by kernel_rfl) (by kernel_rfl) (fun _ _ _ h => h) ((Or.inl ⟨by kernel_rfl, fun wq hSw => exec_eqb Dy Dx ly lx true hd1 wq _ _ _ rfl rfl _ rfl⟩)) hHeld ?_
              try simp only [Act.put, List.setIfInBounds_toArray, List.set_cons_zero, List.set_cons_succ]
              refine wpAnyH_take (i := 9) (oi := { dst := some 27, op := Op.move (Operand.tmp 26), type := _, pos := _, after := _, guard := _ }) (v := ?_) rfl (by kernel_rfl) (by kernel_rfl) (by kernel_rfl) (fun _ _ _ h => h) (Or.inl ⟨by rfl, ?_⟩) hHeld ?_
              rotate_left
              · intro wq hSw
                go_simp
                rfl
              try simp only [Act.put, List.setIfInBounds_toArray, List.set_cons_zero, List.set_cons_succ]
              refine wpAnyH_take (i := 10) (oi := { dst := some 28, op := Op.move (Operand.tmp 0), type := _, pos := _, after := _, guard := _ }) (v := ?_) rfl (by kernel_rfl) (by kernel_rfl) (by kernel_rfl) (fun _ _ _ h => h) (Or.inl ⟨by rfl, ?_⟩) hHeld ?_
              rotate_left
              · intro wq hSw
                go_simp
                rfl
              try simp only [Act.put, List.setIfInBounds_toArray, List.set_cons_zero, List.set_cons_succ]
              refine wpAnyH_take (i := 11) (oi := { dst := some 29, op := Op.move (Operand.tmp 5), type := _, pos := _, after := _, guard := _ }) (v := ?_) rfl (by kernel_rfl) (by kernel_rfl) (by kernel_rfl) (fun _ _ _ h => h) (Or.inl ⟨by rfl, ?_⟩) hHeld ?_
              rotate_left
              · intro wq hSw
                go_simp
                rfl
              try simp only [Act.put, List.setIfInBounds_toArray, List.set_cons_zero, List.set_cons_succ]
              refine wpAnyH_take (i := 12) (oi := { dst := some 30, op := Op.indexAddr 36 (Operand.tmp 28) (Operand.tmp 29), type := _, pos := _, after := _, guard := _ }) (v := ?_) rfl (by kernel_rfl) (by kernel_rfl) (by kernel_rfl) (fun _ _ _ h => h) (Or.inl ⟨by rfl, ?_⟩) hHeld ?_
              rotate_left
              · intro wq hSw
                go_simp
                rfl
              try simp only [Act.put, List.setIfInBounds_toArray, List.set_cons_zero, List.set_cons_succ]
              refine wpAnyH_take (i := 13) (oi := { dst := some 31, op := Op.load 9 (Operand.tmp 30), type := _, pos := _, after := _, guard := _ }) (v := ?_) rfl (by kernel_rfl) (by kernel_rfl) (by kernel_rfl) (fun _ _ _ h => h) (Or.inl ⟨by rfl, ?_⟩) hHeld ?_
              rotate_left
              · intro wq hSw
                have ty := hSw.2.1
                go_simp
                rfl
              try simp only [Act.put, List.setIfInBounds_toArray, List.set_cons_zero, List.set_cons_succ]
              refine wpAnyH_take (i := 14) (oi := { dst := some 32, op := Op.move (Operand.tmp 0), type := _, pos := _, after := _, guard := _ }) (v := ?_) rfl (by kernel_rfl) (by kernel_rfl) (by kernel_rfl) (fun _ _ _ h => h) (Or.inl ⟨by rfl, ?_⟩) hHeld ?_
              rotate_left
              · intro wq hSw
                go_simp
                rfl
              try simp only [Act.put, List.setIfInBounds_toArray, List.set_cons_zero, List.set_cons_succ]
              refine wpAnyH_take (i := 15) (oi := { dst := some 33, op := Op.move (Operand.tmp 6), type := _, pos := _, after := _, guard := _ }) (v := ?_) rfl (by kernel_rfl) (by kernel_rfl) (by kernel_rfl) (fun _ _ _ h => h) (Or.inl ⟨by rfl, ?_⟩) hHeld ?_
              rotate_left
              · intro wq hSw
                go_simp
                rfl
              try simp only [Act.put, List.setIfInBounds_toArray, List.set_cons_zero, List.set_cons_succ]
              refine wpAnyH_take (i := 16) (oi := { dst := some 34, op := Op.indexAddr 36 (Operand.tmp 32) (Operand.tmp 33), type := _, pos := _, after := _, guard := _ }) (v := ?_) rfl (by kernel_rfl) (by kernel_rfl) (by kernel_rfl) (fun _ _ _ h => h) (Or.inl ⟨by rfl, ?_⟩) hHeld ?_
              rotate_left
              · intro wq hSw
                go_simp
                rfl
              try simp only [Act.put, List.setIfInBounds_toArray, List.set_cons_zero, List.set_cons_succ]
              refine wpAnyH_take (i := 17) (oi := { dst := some 35, op := Op.load 9 (Operand.tmp 34), type := _, pos := _, after := _, guard := _ }) (v := ?_) rfl (by kernel_rfl) (by kernel_rfl) (by kernel_rfl) (fun _ _ _ h => h) (Or.inl ⟨by rfl, ?_⟩) hHeld ?_
              rotate_left
              · intro wq hSw
                have tx := hSw.1
                go_simp
                rfl
              try simp only [Act.put, List.setIfInBounds_toArray, List.set_cons_zero, List.set_cons_succ]
              refine wpAnyH_take (i := 18) (oi := { dst := some 36, op := Op.binOp BinOp.neq 9 (Operand.tmp 31) (Operand.tmp 35) 9, type := _, pos := _, after := _, guard := _ }) (v := ?_) rfl (by kernel_rfl) (by kernel_rfl) (by kernel_rfl) (fun _ _ _ h => h) (Or.inl ⟨by rfl, ?_⟩) hHeld ?_
              rotate_left
              · intro wq hSw
                go_simp
                rfl
              try simp only [Act.put, List.setIfInBounds_toArray, List.set_cons_zero, List.set_cons_succ]
              refine wpAnyH_take (i := 19) (oi := { dst := some 37, op := Op.pick (Operand.tmp 27) (Operand.tmp 36) (Operand.const (Value.bool false)), type := _, pos := _, after := _, guard := _ }) (v := ?_) rfl (by kernel_rfl) (by kernel_rfl) (by kernel_rfl) (fun _ _ _ h => h) (Or.inl ⟨by rfl, ?_⟩) hHeld ?_
              rotate_left
              · intro wq hSw
                go_simp
                rfl
              try simp only [Act.put, List.setIfInBounds_toArray, List.set_cons_zero, List.set_cons_succ]
              refine wpAnyH_done (by kernel_rfl) ?_ _
              go_wp2_with fail
              go_ret
              exact ⟨by rw [hap]; rfl, hHeld.2.2.2.2⟩
          · have hd1 : decide (Dy = Dx) = false := decide_eq_false hd
            have hap : apt x y Dx Dy = true := by unfold apt; rw [hd1]; rfl
            clear hd
            go_upto_region 7 with fail
            refine wp_region_held_drew (S := fun V => SU w g gd x y Dx Dy V) (by kernel_rfl) hs.drew (fun hHeld => ?_)
            clear hs
            generalize wr.drew = Y0 at *
            refine wpAnyH_take (i := 0) (oi := { dst := some 18, op := Op.move (Operand.tmp 1), type := _, pos := _, after := _, guard := _ }) (v := ?_) rfl (by kernel_rfl) (by kernel_rfl) (by kernel_rfl) (fun _ _ _ h => h) (Or.inl ⟨by rfl, ?_⟩) hHeld ?_
            rotate_left
            · intro wq hSw
              go_simp
              rfl
            try simp only [Act.put, List.setIfInBounds_toArray, List.set_cons_zero, List.set_cons_succ]
            refine wpAnyH_take (i := 1) (oi := { dst := some 19, op := Op.move (Operand.tmp 5), type := _, pos := _, after := _, guard := _ }) (v := ?_) rfl (by kernel_rfl) (by kernel_rfl) (by kernel_rfl) (fun _ _ _ h => h) (Or.inl ⟨by rfl, ?_⟩) hHeld ?_
            rotate_left
            · intro wq hSw
              go_simp
              rfl
            try simp only [Act.put, List.setIfInBounds_toArray, List.set_cons_zero, List.set_cons_succ]
            refine wpAnyH_take (i := 2) (oi := { dst := some 20, op := Op.indexAddr 67 (Operand.tmp 18) (Operand.tmp 19), type := _, pos := _, after := _, guard := _ }) (v := ?_) rfl (by kernel_rfl) (by kernel_rfl) (by kernel_rfl) (fun _ _ _ h => h) (Or.inl ⟨by rfl, ?_⟩) hHeld ?_
            rotate_left
            · intro wq hSw
              go_simp
              rfl
            try simp only [Act.put, List.setIfInBounds_toArray, List.set_cons_zero, List.set_cons_succ]
            refine wpAnyH_take (i := 3) (oi := { dst := some 21, op := Op.load 64 (Operand.tmp 20), type := _, pos := _, after := _, guard := _ }) rfl (by kernel_rfl) (by kernel_rfl) (by kernel_rfl) (fun _ _ _ h => h) (yl64 (by rfl) _ rfl gd 32 rfl Dy (fun w1 h => h.2.2.2.1) ly) hHeld ?_
            try simp only [Act.put, List.setIfInBounds_toArray, List.set_cons_zero, List.set_cons_succ]
            refine wpAnyH_take (i := 4) (oi := { dst := some 22, op := Op.move (Operand.tmp 1), type := _, pos := _, after := _, guard := _ }) (v := ?_) rfl (by kernel_rfl) (by kernel_rfl) (by kernel_rfl) (fun _ _ _ h => h) (Or.inl ⟨by rfl, ?_⟩) hHeld ?_
            rotate_left
            · intro wq hSw
              go_simp
              rfl
            try simp only [Act.put, List.setIfInBounds_toArray, List.set_cons_zero, List.set_cons_succ]
            refine wpAnyH_take (i := 5) (oi := { dst := some 23, op := Op.move (Operand.tmp 6), type := _, pos := _, after := _, guard := _ }) (v := ?_) rfl (by kernel_rfl) (by kernel_rfl) (by kernel_rfl) (fun _ _ _ h => h) (Or.inl ⟨by rfl, ?_⟩) hHeld ?_
            rotate_left
            · intro wq hSw
              go_simp
              rfl
            try simp only [Act.put, List.setIfInBounds_toArray, List.set_cons_zero, List.set_cons_succ]
            refine wpAnyH_take (i := 6) (oi := { dst := some 24, op := Op.indexAddr 67 (Operand.tmp 22) (Operand.tmp 23), type := _, pos := _, after := _, guard := _ }) (v := ?_) rfl (by kernel_rfl) (by kernel_rfl) (by kernel_rfl) (fun _ _ _ h => h) (Or.inl ⟨by rfl, ?_⟩) hHeld ?_
            rotate_left
            · intro wq hSw
              go_simp
              rfl
            try simp only [Act.put, List.setIfInBounds_toArray, List.set_cons_zero, List.set_cons_succ]
            refine wpAnyH_take (i := 7) (oi := { dst := some 25, op := Op.load 64 (Operand.tmp 24), type := _, pos := _, after := _, guard := _ }) rfl (by kernel_rfl) (by kernel_rfl) (by kernel_rfl) (fun _ _ _ h => h) (yl64 (by rfl) _ rfl gd 0 rfl Dx (fun w1 h => h.2.2.1) lx) hHeld ?_
            try simp only [Act.put, List.setIfInBounds_toArray, List.set_cons_zero, List.set_cons_succ]
            refine wpAnyH_take (i := 8) (oi := { dst := some 26, op := Op.binOp BinOp.eql 64 (Operand.tmp 21) (Operand.tmp 25) 64, type := _, pos := _, after := _, guard := _ }) rfl (by kernel_rfl) (by kernel_rfl) (by kernel_rfl) (fun _ _ _ h => h) ((Or.inl ⟨by kernel_rfl, fun wq hSw => exec_eqb Dy Dx ly lx false hd1 wq _ _ _ rfl rfl _ rfl⟩)) hHeld ?_
            try simp only [Act.put, List.setIfInBounds_toArray, List.set_cons_zero, List.set_cons_succ]
            refine wpAnyH_take (i := 9) (oi := { dst := some 27, op := Op.move (Operand.tmp 26), type := _, pos := _, after := _, guard := _ }) (v := ?_) rfl (by kernel_rfl) (by kernel_rfl) (by kernel_rfl) (fun _ _ _ h => h) (Or.inl ⟨by rfl, ?_⟩) hHeld ?_
            rotate_left
            · intro wq hSw
              go_simp
              rfl
            try simp only [Act.put, List.setIfInBounds_toArray, List.set_cons_zero, List.set_cons_succ]
            refine wpAnyH_take (i := 10) (oi := { dst := some 28, op := Op.move (Operand.tmp 0), type := _, pos := _, after := _, guard := _ }) (v := undef) rfl (by kernel_rfl) (by kernel_rfl) (by kernel_rfl) (fun _ _ _ h => h) (Or.inr ⟨by kernel_rfl, rfl⟩) hHeld ?_
            try simp only [Act.put, List.setIfInBounds_toArray, List.set_cons_zero, List.set_cons_succ]
            refine wpAnyH_take (i := 11) (oi := { dst := some 29, op := Op.move (Operand.tmp 5), type := _, pos := _, after := _, guard := _ }) (v := undef) rfl (by kernel_rfl) (by kernel_rfl) (by kernel_rfl) (fun _ _ _ h => h) (Or.inr ⟨by kernel_rfl, rfl⟩) hHeld ?_
            try simp only [Act.put, List.setIfInBounds_toArray, List.set_cons_zero, List.set_cons_succ]
            refine wpAnyH_take (i := 12) (oi := { dst := some 30, op := Op.indexAddr 36 (Operand.tmp 28) (Operand.tmp 29), type := _, pos := _, after := _, guard := _ }) (v := undef) rfl (by kernel_rfl) (by kernel_rfl) (by kernel_rfl) (fun _ _ _ h => h) (Or.inr ⟨by kernel_rfl, rfl⟩) hHeld ?_
            try simp only [Act.put, List.setIfInBounds_toArray, List.set_cons_zero, List.set_cons_succ]
            refine wpAnyH_take (i := 13) (oi := { dst := some 31, op := Op.load 9 (Operand.tmp 30), type := _, pos := _, after := _, guard := _ }) (v := undef) rfl (by kernel_rfl) (by kernel_rfl) (by kernel_rfl) (fun _ _ _ h => h) (Or.inr ⟨by kernel_rfl, rfl⟩) hHeld ?_
            try simp only [Act.put, List.setIfInBounds_toArray, List.set_cons_zero, List.set_cons_succ]
            refine wpAnyH_take (i := 14) (oi := { dst := some 32, op := Op.move (Operand.tmp 0), type := _, pos := _, after := _, guard := _ }) (v := undef) rfl (by kernel_rfl) (by kernel_rfl) (by kernel_rfl) (fun _ _ _ h => h) (Or.inr ⟨by kernel_rfl, rfl⟩) hHeld ?_
            try simp only [Act.put, List.setIfInBounds_toArray, List.set_cons_zero, List.set_cons_succ]
            refine wpAnyH_take (i := 15) (oi := { dst := some 33, op := Op.move (Operand.tmp 6), type := _, pos := _, after := _, guard := _ }) (v := undef) rfl (by kernel_rfl) (by kernel_rfl) (by kernel_rfl) (fun _ _ _ h => h) (Or.inr ⟨by kernel_rfl, rfl⟩) hHeld ?_
            try simp only [Act.put, List.setIfInBounds_toArray, List.set_cons_zero, List.set_cons_succ]
            refine wpAnyH_take (i := 16) (oi := { dst := some 34, op := Op.indexAddr 36 (Operand.tmp 32) (Operand.tmp 33), type := _, pos := _, after := _, guard := _ }) (v := undef) rfl (by kernel_rfl) (by kernel_rfl) (by kernel_rfl) (fun _ _ _ h => h) (Or.inr ⟨by kernel_rfl, rfl⟩) hHeld ?_
            try simp only [Act.put, List.setIfInBounds_toArray, List.set_cons_zero, List.set_cons_succ]
            refine wpAnyH_take (i := 17) (oi := { dst := some 35, op := Op.load 9 (Operand.tmp 34), type := _, pos := _, after := _, guard := _ }) (v := undef) rfl (by kernel_rfl) (by kernel_rfl) (by kernel_rfl) (fun _ _ _ h => h) (Or.inr ⟨by kernel_rfl, rfl⟩) hHeld ?_
            try simp only [Act.put, List.setIfInBounds_toArray, List.set_cons_zero, List.set_cons_succ]
            refine wpAnyH_take (i := 18) (oi := { dst := some 36, op := Op.binOp BinOp.neq 9 (Operand.tmp 31) (Operand.tmp 35) 9, type := _, pos := _, after := _, guard := _ }) (v := undef) rfl (by kernel_rfl) (by kernel_rfl) (by kernel_rfl) (fun _ _ _ h => h) (Or.inr ⟨by kernel_rfl, rfl⟩) hHeld ?_
            try simp only [Act.put, List.setIfInBounds_toArray, List.set_cons_zero, List.set_cons_succ]
            refine wpAnyH_take (i := 19) (oi := { dst := some 37, op := Op.pick (Operand.tmp 27) (Operand.tmp 36) (Operand.const (Value.bool false)), type := _, pos := _, after := _, guard := _ }) (v := ?_) rfl (by kernel_rfl) (by kernel_rfl) (by kernel_rfl) (fun _ _ _ h => h) (Or.inl ⟨by rfl, ?_⟩) hHeld ?_
            rotate_left
            · intro wq hSw
              go_simp
              rfl
            try simp only [Act.put, List.setIfInBounds_toArray, List.set_cons_zero, List.set_cons_succ]
            refine wpAnyH_done (by kernel_rfl) ?_ _
            go_wp2_with fail
            exact ⟨⟨1, by omega, rfl, (fun _ => hap), hHeld⟩, by simp [intOf]⟩
        | 1, _, hap1 =>
          have hap := hap1 rfl
          go_wp2_with fail
          exact ⟨⟨2, by omega, rfl, (fun _ => hap), hs⟩, by simp [intOf]⟩
    | 2, _, hap2 =>
      have hap := hap2 rfl
      go_wp2_with fail
      go_ret
      exact ⟨by first | rfl | (rw [hap]; rfl) | rw [hap], hs.2.2.2.2⟩
/-- the key's box, the texts, the heap -/
structure SA (w : World) (g : Nat) (K : List Nat) (x y : ByteArray) (V : World) : Prop where
  k : Own V w.heap.size 24 (vs .u8 K)
  x : V.cell? ⟨g, 0, none⟩ = some (.string x)
  y : V.cell? ⟨g, 1, none⟩ = some (.string y)
  b : Below w.heap.size w V
theorem SA.below {w V W : World} {g : Nat} {K : List Nat} {x y : ByteArray} (h : SA w g K x y V) (b : Below V.heap.size V W) : SA w g K x y W := ⟨Below.own b h.k h.k.lt, cell_below h.x b, cell_below h.y b, h.b.trans (b.mono h.b.size)⟩
theorem SA.drew {w V : World} {g : Nat} {K : List Nat} {x y : ByteArray} (h : SA w g K x y V) : SA w g K x y V.drew := ⟨h.k.drew, h.x, h.y, h.b.drew⟩
theorem SA.low {w V W : World} {g : Nat} {K : List Nat} {x y : ByteArray} (h : SA w g K x y V) (b : Below (w.heap.size + 1) V W) (hg : g < w.heap.size) : SA w g K x y W :=
  ⟨(b.block _ (by omega)).trans h.k, (World.cell?_of_block (b.block g (by omega))).trans h.x, (World.cell?_of_block (b.block g (by omega))).trans h.y, h.b.trans (b.mono (by omega))⟩
theorem own_range {V : World} {g : Nat} {t : TypeId} {D : List Nat} (h : Own V g t (vs .u8 D)) : V.rangeAt g 0 (Rd.vl D) := fun j v hj => by
  rw [Nat.zero_add, h.cellv j, ← Array.getElem?_toList]
  exact hj
set_option maxHeartbeats 4000000 in
theorem apk_any (g : Nat) (K : List Nat) (x y : ByteArray) (w : World) (hK : Bl.By K) (lK : K.length = 32) (hpt : Pt w g [x, y]) (hx : x.size ≤ 1000000) (hy : y.size ≤ 1000000) :
    Calls Tryd.prog 26 #[.agg (vs .u8 K), .slice (some ⟨g, 0, none⟩) 2 2] w fun e w' => e = .returned (.bool (apt x y (Bl.keyed K (tn x)) (Bl.keyed K (tn y)))) ∧ Below w.heap.size w w' := by
  have lx : (Bl.keyed K (tn x)).length = 32 := keyed_len _ _
  have ly : (Bl.keyed K (tn y)).length = 32 := keyed_len _ _
  have hkyx := fun wr {g1 : Nat} (p : Pt wr g1 [x]) => rkeyed_one hK lK p hx
  have hkyy := fun wr {g1 : Nat} (p : Pt wr g1 [y]) => rkeyed_one hK lK p hy
  have b0 := grow w (Obj.cells (vs .u8 K) 24)
  have s0 : SA w g K x y (w.alloc (Obj.cells (vs .u8 K) 24)) := ⟨Own.new _ _ _, cell_below (hpt.c 0 x rfl) b0, cell_below (hpt.c 1 y rfl) b0, b0⟩
  go_enter Tryd.func26, Tryd.ntmps26
  go_upto_region 1 with fail
  generalize w.alloc (Obj.cells (vs .u8 K) 24) = W0 at *
  go_wp2_with fail
  go_loopw [5, 6] (fun s5 s6 wr => ∃ (i : Nat), i ≤ 2 ∧ s6 = .int .i64 (i : Int) ∧ ∃ (A : Option Addr) (cap : Nat) (l : List (List Nat)), s5 = .slice A i cap ∧ l = [Bl.keyed K (tn x), Bl.keyed K (tn y)].take i ∧ (i = 2 → l = [Bl.keyed K (tn x), Bl.keyed K (tn y)]) ∧ Rd.RS wr (w.heap.size + 1) A i cap l ∧ SA w g K x y wr) (fun _ s6 _ => 2 - (intOf s6).toNat)
  case atStart => exact ⟨0, by omega, rfl, none, 0, [], rfl, rfl, (fun e => by cases e), Rd.RS.nil _ _, s0⟩
  case round =>
    clear s0 b0
    obtain ⟨i, hi, rfl, A, cap, l, rfl, hl, hl2, hr, hs⟩ := hrel
    match i, hi, hl, hl2, hr with
    | 0, _, hl, _, hr =>
      obtain rfl : l = [] := hl
      go_upto_region 5 with fail
      refine wp_region_held_drew (S := fun V => SA w g K x y V) (by kernel_rfl) hs.drew (fun hHeld => ?_)
      replace hr := hr.below ((Below.refl wr.heap.size wr).drew)
      clear hs
      generalize wr.drew = Y0 at *
      refine wpAnyH_take (i := 0) (oi := { dst := some 13, op := Op.move (Operand.tmp 5), type := _, pos := _, after := _, guard := _ }) (v := ?_) rfl (by kernel_rfl) (by kernel_rfl) (by kernel_rfl) (fun _ _ _ h => h) (Or.inl ⟨by rfl, ?_⟩) hHeld ?_
      rotate_left
      · intro wq hSw
        go_simp
        rfl
      try simp only [Act.put, List.setIfInBounds_toArray, List.set_cons_zero, List.set_cons_succ]
      refine wpAnyH_take (i := 1) (oi := { dst := some 14, op := Op.load 24 (Operand.tmp 2), type := _, pos := _, after := _, guard := _ }) rfl (by kernel_rfl) (by kernel_rfl) (by kernel_rfl) (fun _ _ _ h => h) (yl t28 (by rfl) _ rfl _ rfl (fun w1 h => h.k) lK) hHeld ?_
      try simp only [Act.put, List.setIfInBounds_toArray, List.set_cons_zero, List.set_cons_succ]
      refine wpAnyH_take (i := 2) (oi := { dst := some 15, op := Op.move (Operand.tmp 1), type := _, pos := _, after := _, guard := _ }) (v := ?_) rfl (by kernel_rfl) (by kernel_rfl) (by kernel_rfl) (fun _ _ _ h => h) (Or.inl ⟨by rfl, ?_⟩) hHeld ?_
      rotate_left
      · intro wq hSw
        go_simp
        rfl
      try simp only [Act.put, List.setIfInBounds_toArray, List.set_cons_zero, List.set_cons_succ]
      refine wpAnyH_take (i := 3) (oi := { dst := some 16, op := Op.move (Operand.tmp 6), type := _, pos := _, after := _, guard := _ }) (v := ?_) rfl (by kernel_rfl) (by kernel_rfl) (by kernel_rfl) (fun _ _ _ h => h) (Or.inl ⟨by rfl, ?_⟩) hHeld ?_
      rotate_left
      · intro wq hSw
        go_simp
        rfl
      try simp only [Act.put, List.setIfInBounds_toArray, List.set_cons_zero, List.set_cons_succ]
      refine wpAnyH_take (i := 4) (oi := { dst := some 17, op := Op.indexAddr 36 (Operand.tmp 15) (Operand.tmp 16), type := _, pos := _, after := _, guard := _ }) (v := ?_) rfl (by kernel_rfl) (by kernel_rfl) (by kernel_rfl) (fun _ _ _ h => h) (Or.inl ⟨by rfl, ?_⟩) hHeld ?_
      rotate_left
      · intro wq hSw
        go_simp
        rfl
      try simp only [Act.put, List.setIfInBounds_toArray, List.set_cons_zero, List.set_cons_succ]
      refine wpAnyH_take (i := 5) (oi := { dst := some 18, op := Op.load 9 (Operand.tmp 17), type := _, pos := _, after := _, guard := _ }) (v := ?_) rfl (by kernel_rfl) (by kernel_rfl) (by kernel_rfl) (fun _ _ _ h => h) (Or.inl ⟨by rfl, ?_⟩) hHeld ?_
      rotate_left
      · intro wq hSw
        have tx := hSw.x
        go_simp
        rfl
      try simp only [Act.put, List.setIfInBounds_toArray, List.set_cons_zero, List.set_cons_succ]
      refine wpAnyH_ready (rs := [6]) (by kernel_rfl) (by simp) ?_
      refine AllReadyH.cons (o := { dst := some 19, op := Op.buildSlice 36 1 #[(0, Operand.tmp 18)], type := _, pos := _, after := _, guard := _ }) rfl (fun KK hKK => ?_) AllReadyH.nil
      have hKS := Lib.hid hKK
      clear hKK
      go_simp
      have hx := grow Y0 (Obj.cells #[.string x] 9)
      refine hKS.out.out _ (Y0.alloc (Obj.cells #[.string x] 9)) (hHeld.below hx) (fun hHeld => ?_)
      replace hr := hr.below hx
      have pt := Pt.new1 Y0 x
      clear hKS KK hx
      generalize Y0.alloc (Obj.cells #[.string x] 9) = V6 at *
      try simp only [Act.put, List.setIfInBounds_toArray, List.set_cons_zero, List.set_cons_succ]
      refine wpAnyH_ready (rs := [7]) (by kernel_rfl) (by simp) ?_
      refine AllReadyH.cons (o := { dst := some 20, op := Op.call { callee := Callee.value (Operand.func 44), args := #[Operand.tmp 14, Operand.tmp 19], argTypes := #[24, 36] }, type := _, pos := _, after := _, guard := _ }) rfl (fun KK hKK => ?_) AllReadyH.nil
      have hKS := Lib.hid hKK
      clear hKK
      go_simp
      refine (hkyx _ pt).mono ?_
      rintro e w7 ⟨rfl, hx⟩
      go_wp2_with fail
      refine hKS.out.out _ _ (hHeld.below hx) (fun hHeld => ?_)
      replace hr := hr.below hx
      clear hKS KK hx
      try simp only [Act.put, List.setIfInBounds_toArray, List.set_cons_zero, List.set_cons_succ]
      refine wpAnyH_ready (rs := [8]) (by kernel_rfl) (by simp) ?_
      refine AllReadyH.cons (o := { dst := some 21, op := Op.buildSlice 67 1 #[(0, Operand.tmp 20)], type := _, pos := _, after := _, guard := _ }) rfl (fun KK hKK => ?_) AllReadyH.nil
      have hKS := Lib.hid hKK
      clear hKK
      refine Rd.wlit rfl rfl lx ?_
      have hx := grow w7 (Obj.cells (vs .u8 (Bl.keyed K (tn x))) 64)
      refine hKS.out.out _ (w7.alloc (Obj.cells (vs .u8 (Bl.keyed K (tn x))) 64)) (hHeld.below hx) (fun hHeld => ?_)
      replace hr := hr.below hx
      have od : Own (w7.alloc (Obj.cells (vs .u8 (Bl.keyed K (tn x))) 64)) w7.heap.size 64 (vs .u8 (Bl.keyed K (tn x))) := Own.new _ _ _
      clear hKS KK hx
      generalize w7.alloc (Obj.cells (vs .u8 (Bl.keyed K (tn x))) 64) = V8 at *
      try simp only [Act.put, List.setIfInBounds_toArray, List.set_cons_zero, List.set_cons_succ]
      refine wpAnyH_ready (rs := [9]) (by kernel_rfl) (by simp) ?_
      refine AllReadyH.cons (o := { dst := some 22, op := Op.call { callee := Callee.builtin Builtin.append, args := #[Operand.tmp 13, Operand.tmp 21], argTypes := #[67, 67] }, type := _, pos := _, after := _, guard := _ }) rfl (fun KK hKK => ?_) AllReadyH.nil
      have hKS := Lib.hid hKK
      clear hKK
      refine Rd.wapp _ _ rfl (w.heap.size + 1) _ _ _ _ rfl hr _ _ (Bl.keyed K (tn x)) rfl (own_range od) lx (by omega) (by have := hHeld.k.lt; omega) ?_
      intro g2 cap2 V9 hr9 hx9
      refine hKS.out.out _ _ (hHeld.low hx9 hpt.lt) (fun hHeld => ?_)
      clear hKS KK hr od hx9
      try simp only [Act.put, List.setIfInBounds_toArray, List.set_cons_zero, List.set_cons_succ]
      refine wpAnyH_take (i := 10) (oi := { dst := some 5, op := Op.assign (Operand.tmp 22), type := _, pos := _, after := _, guard := _ }) (v := ?_) rfl (by kernel_rfl) (by kernel_rfl) (by kernel_rfl) (fun _ _ _ h => h) (Or.inl ⟨by rfl, ?_⟩) hHeld ?_
      rotate_left
      · intro wq hSw
        go_simp
        rfl
      try simp only [Act.put, List.setIfInBounds_toArray, List.set_cons_zero, List.set_cons_succ]
      refine wpAnyH_done (by kernel_rfl) ?_ _
      go_wp2_with fail
      exact ⟨⟨1, by omega, rfl, some ⟨g2, 0, none⟩, cap2, [Bl.keyed K (tn x)], rfl, by simp, (fun e => by cases e), hr9, hHeld⟩, by simp [intOf]⟩
    | 1, _, hl, _, hr =>
      obtain rfl : l = [Bl.keyed K (tn x)] := hl
      go_upto_region 5 with fail
      refine wp_region_held_drew (S := fun V => SA w g K x y V) (by kernel_rfl) hs.drew (fun hHeld => ?_)
      replace hr := hr.below ((Below.refl wr.heap.size wr).drew)
      clear hs
      generalize wr.drew = Y0 at *
      refine wpAnyH_take (i := 0) (oi := { dst := some 13, op := Op.move (Operand.tmp 5), type := _, pos := _, after := _, guard := _ }) (v := ?_) rfl (by kernel_rfl) (by kernel_rfl) (by kernel_rfl) (fun _ _ _ h => h) (Or.inl ⟨by rfl, ?_⟩) hHeld ?_
      rotate_left
      · intro wq hSw
        go_simp
        rfl
      try simp only [Act.put, List.setIfInBounds_toArray, List.set_cons_zero, List.set_cons_succ]
      refine wpAnyH_take (i := 1) (oi := { dst := some 14, op := Op.load 24 (Operand.tmp 2), type := _, pos := _, after := _, guard := _ }) rfl (by kernel_rfl) (by kernel_rfl) (by kernel_rfl) (fun _ _ _ h => h) (yl t28 (by rfl) _ rfl _ rfl (fun w1 h => h.k) lK) hHeld ?_
      try simp only [Act.put, List.setIfInBounds_toArray, List.set_cons_zero, List.set_cons_succ]
      refine wpAnyH_take (i := 2) (oi := { dst := some 15, op := Op.move (Operand.tmp 1), type := _, pos := _, after := _, guard := _ }) (v := ?_) rfl (by kernel_rfl) (by kernel_rfl) (by kernel_rfl) (fun _ _ _ h => h) (Or.inl ⟨by rfl, ?_⟩) hHeld ?_
      rotate_left
      · intro wq hSw
        go_simp
        rfl
      try simp only [Act.put, List.setIfInBounds_toArray, List.set_cons_zero, List.set_cons_succ]
      refine wpAnyH_take (i := 3) (oi := { dst := some 16, op := Op.move (Operand.tmp 6), type := _, pos := _, after := _, guard := _ }) (v := ?_) rfl (by kernel_rfl) (by kernel_rfl) (by kernel_rfl) (fun _ _ _ h => h) (Or.inl ⟨by rfl, ?_⟩) hHeld ?_
      rotate_left
      · intro wq hSw
        go_simp
        rfl
      try simp only [Act.put, List.setIfInBounds_toArray, List.set_cons_zero, List.set_cons_succ]
      refine wpAnyH_take (i := 4) (oi := { dst := some 17, op := Op.indexAddr 36 (Operand.tmp 15) (Operand.tmp 16), type := _, pos := _, after := _, guard := _ }) (v := ?_) rfl (by kernel_rfl) (by kernel_rfl) (by kernel_rfl) (fun _ _ _ h => h) (Or.inl ⟨by rfl, ?_⟩) hHeld ?_
      rotate_left
      · intro wq hSw
        go_simp
        rfl
      try simp only [Act.put, List.setIfInBounds_toArray, List.set_cons_zero, List.set_cons_succ]
      refine wpAnyH_take (i := 5) (oi := { dst := some 18, op := Op.load 9 (Operand.tmp 17), type := _, pos := _, after := _, guard := _ }) (v := ?_) rfl (by kernel_rfl) (by kernel_rfl) (by kernel_rfl) (fun _ _ _ h => h) (Or.inl ⟨by rfl, ?_⟩) hHeld ?_
      rotate_left
      · intro wq hSw
        have tx := hSw.y
        go_simp
        rfl
      try simp only [Act.put, List.setIfInBounds_toArray, List.set_cons_zero, List.set_cons_succ]
      refine wpAnyH_ready (rs := [6]) (by kernel_rfl) (by simp) ?_
      refine AllReadyH.cons (o := { dst := some 19, op := Op.buildSlice 36 1 #[(0, Operand.tmp 18)], type := _, pos := _, after := _, guard := _ }) rfl (fun KK hKK => ?_) AllReadyH.nil
      have hKS := Lib.hid hKK
      clear hKK
      go_simp
      have hx := grow Y0 (Obj.cells #[.string y] 9)
      refine hKS.out.out _ (Y0.alloc (Obj.cells #[.string y] 9)) (hHeld.below hx) (fun hHeld => ?_)
      replace hr := hr.below hx
      have pt := Pt.new1 Y0 y
      clear hKS KK hx
      generalize Y0.alloc (Obj.cells #[.string y] 9) = V6 at *
      try simp only [Act.put, List.setIfInBounds_toArray, List.set_cons_zero, List.set_cons_succ]
      refine wpAnyH_ready (rs := [7]) (by kernel_rfl) (by simp) ?_
      refine AllReadyH.cons (o := { dst := some 20, op := Op.call { callee := Callee.value (Operand.func 44), args := #[Operand.tmp 14, Operand.tmp 19], argTypes := #[24, 36] }, type := _, pos := _, after := _, guard := _ }) rfl (fun KK hKK => ?_) AllReadyH.nil
      have hKS := Lib.hid hKK
      clear hKK
      go_simp
      refine (hkyy _ pt).mono ?_
      rintro e w7 ⟨rfl, hx⟩
      go_wp2_with fail
      refine hKS.out.out _ _ (hHeld.below hx) (fun hHeld => ?_)
      replace hr := hr.below hx
      clear hKS KK hx
      try simp only [Act.put, List.setIfInBounds_toArray, List.set_cons_zero, List.set_cons_succ]
      refine wpAnyH_ready (rs := [8]) (by kernel_rfl) (by simp) ?_
      refine AllReadyH.cons (o := { dst := some 21, op := Op.buildSlice 67 1 #[(0, Operand.tmp 20)], type := _, pos := _, after := _, guard := _ }) rfl (fun KK hKK => ?_) AllReadyH.nil
      have hKS := Lib.hid hKK
      clear hKK
      refine Rd.wlit rfl rfl ly ?_
      have hx := grow w7 (Obj.cells (vs .u8 (Bl.keyed K (tn y))) 64)
      refine hKS.out.out _ (w7.alloc (Obj.cells (vs .u8 (Bl.keyed K (tn y))) 64)) (hHeld.below hx) (fun hHeld => ?_)
      replace hr := hr.below hx
      have od : Own (w7.alloc (Obj.cells (vs .u8 (Bl.keyed K (tn y))) 64)) w7.heap.size 64 (vs .u8 (Bl.keyed K (tn y))) := Own.new _ _ _
      clear hKS KK hx
      generalize w7.alloc (Obj.cells (vs .u8 (Bl.keyed K (tn y))) 64) = V8 at *
      try simp only [Act.put, List.setIfInBounds_toArray, List.set_cons_zero, List.set_cons_succ]
      refine wpAnyH_ready (rs := [9]) (by kernel_rfl) (by simp) ?_
      refine AllReadyH.cons (o := { dst := some 22, op := Op.call { callee := Callee.builtin Builtin.append, args := #[Operand.tmp 13, Operand.tmp 21], argTypes := #[67, 67] }, type := _, pos := _, after := _, guard := _ }) rfl (fun KK hKK => ?_) AllReadyH.nil
      have hKS := Lib.hid hKK
      clear hKK
      refine Rd.wapp _ _ rfl (w.heap.size + 1) _ _ _ _ rfl hr _ _ (Bl.keyed K (tn y)) rfl (own_range od) ly (by omega) (by have := hHeld.k.lt; omega) ?_
      intro g2 cap2 V9 hr9 hx9
      refine hKS.out.out _ _ (hHeld.low hx9 hpt.lt) (fun hHeld => ?_)
      clear hKS KK hr od hx9
      try simp only [Act.put, List.setIfInBounds_toArray, List.set_cons_zero, List.set_cons_succ]
      refine wpAnyH_take (i := 10) (oi := { dst := some 5, op := Op.assign (Operand.tmp 22), type := _, pos := _, after := _, guard := _ }) (v := ?_) rfl (by kernel_rfl) (by kernel_rfl) (by kernel_rfl) (fun _ _ _ h => h) (Or.inl ⟨by rfl, ?_⟩) hHeld ?_
      rotate_left
      · intro wq hSw
        go_simp
        rfl
      try simp only [Act.put, List.setIfInBounds_toArray, List.set_cons_zero, List.set_cons_succ]
      refine wpAnyH_done (by kernel_rfl) ?_ _
      go_wp2_with fail
      exact ⟨⟨2, by omega, rfl, some ⟨g2, 0, none⟩, cap2, [Bl.keyed K (tn x), Bl.keyed K (tn y)], rfl, by simp, (fun _ => rfl), hr9, hHeld⟩, by simp [intOf]⟩
    | 2, _, _, hl2, hr =>
      obtain rfl := hl2 rfl
      obtain ⟨gd, rfl, r1, r2⟩ := hr.two
      have hu := unlike_any g gd cap x y _ _ lx ly wr ⟨hs.x, hs.y, r1, r2, Below.refl _ _⟩
      go_wp2_with fail
      refine hu.mono ?_
      rintro e w2 ⟨rfl, hx2⟩
      have b2 := hs.b.trans (hx2.mono hs.b.size)
      go_wp2_with fail
      go_ret
      exact ⟨rfl, b2⟩
end Go.Proofs.YtaoaebdjinlcnaaDoor
namespace Go.Proofs.YtaoaebdjinlcnaaDoor
set_option linter.unusedVariables false
set_option linter.unusedSimpArgs false
set_option maxRecDepth 100000
open Go.RowKit
theorem rowN_inj {h a b : ByteArray} (hh : h.size ≤ 100000) (ha : a.size ≤ 100000) (hb : b.size ≤ 100000) (e : rowN h a = rowN h b) : a = b := by
  have e1 := congrArg (fun s : ByteArray => s.data.toList) e
  have e2 : Nu.rowB ([h, a].map Un.Nm.toL) = Nu.rowB ([h, b].map Un.Nm.toL) := by simpa [rowN] using e1
  have small : ∀ (x : ByteArray), x.size ≤ 100000 → ∀ s ∈ [h, x].map Un.Nm.toL, s.length < 268435456 := fun x hx s hs => by
    simp at hs
    rcases hs with rfl | rfl <;> rw [Un.Nm.toL_length] <;> omega
  have e3 := Nu.rowB_inj (small a ha) (small b hb) e2
  simp at e3
  exact Un.Nm.toL_inj e3
theorem apt_eq {x y : ByteArray} {Dx Dy : List Nat} (h : apt x y Dx Dy = true) (e : Dy = Dx) : y = x := by
  apply Classical.byContradiction
  intro hne
  unfold apt at h
  rw [decide_eq_true e, str_no hne] at h
  cases h
theorem set_ne {l : List Nat} {i y : Nat} (hi : i < l.length) (hy : y ≠ Bl.nth l i) : l.set i y ≠ l := fun e => by
  have h := congrArg (fun m => Bl.nth m i) e
  simp only [Bl.nth, List.getD_eq_getElem?_getD, List.getElem?_set_self hi, Option.getD_some] at h
  exact hy (by simpa [Bl.nth, List.getD_eq_getElem?_getD] using h)
theorem bent_open {K h box X : ByteArray} {Kk : List Nat} {idx y : Nat} (hh : h.size ≤ 10000) (hz : 44 ≤ box.size) (hz2 : box.size ≤ 10000) (hi : idx < box.size) (hy : y < 256) (hne : y ≠ Bl.nth (tn box) idx)
    (htag : box.extract (box.size - 32) box.size = bs (tagD Kk h (box.extract 0 (box.size - 32)))) (hX : X = bs ((tn box).set idx y))
    (hap : apt (rowN h (box.extract 0 (box.size - 32))) (rowN h (X.extract 0 (box.size - 32))) (Bl.keyed (Bl.keyed Kk wT) (tn (rowN h (box.extract 0 (box.size - 32))))) (Bl.keyed (Bl.keyed Kk wT) (tn (rowN h (X.extract 0 (box.size - 32))))) = true) :
    openD Kk h X = (⟨#[]⟩, 5) := by
  have hby : Bl.By ((tn box).set idx y) := fun x hx => by
    rcases List.mem_or_eq_of_mem_set hx with h | rfl
    · exact tn_by box x h
    · exact hy
  have tX : tn X = (tn box).set idx y := by rw [hX, tn_bs hby]
  have lb : (tn box).length = box.size := tn_length box
  have zX : X.size = box.size := by rw [← tn_length, tX, List.length_set, lb]
  have hsn := set_ne (l := tn box) (by omega) hne
  unfold openD
  rw [if_neg (by omega), if_neg ?_]
  rw [zX]
  intro he
  by_cases hlt : idx < box.size - 32
  · have tail : X.extract (box.size - 32) box.size = box.extract (box.size - 32) box.size := tn_inj (by
      rw [tn_extract, tn_extract, tX, List.take_of_length_le (by rw [List.length_set]; omega), List.take_of_length_le (by omega), List.drop_set_of_lt hlt])
    rw [tail, htag] at he
    have e2 := congrArg tn he
    rw [tn_bs (tagD_by _ _ _), tn_bs (tagD_by _ _ _)] at e2
    have e3 := apt_eq hap e2
    have e4 := rowN_inj (by omega) (by simp; omega) (by simp; omega) e3
    have e5 := congrArg tn e4
    rw [tn_extract, tn_extract, List.drop_zero, List.drop_zero, tX] at e5
    refine hsn ?_
    rw [← List.take_append_drop (box.size - 32) ((tn box).set idx y), e5, List.drop_set_of_lt hlt, List.take_append_drop]
  · have body : X.extract 0 (box.size - 32) = box.extract 0 (box.size - 32) := tn_inj (by
      rw [tn_extract, tn_extract, tX, List.take_set_of_le (by omega)])
    rw [body, ← htag] at he
    have e5 := congrArg tn he.symm
    rw [tn_extract, tn_extract, tX, List.take_of_length_le (by rw [List.length_set]; omega), List.take_of_length_le (by omega)] at e5
    refine hsn ?_
    rw [← List.take_append_drop (box.size - 32) ((tn box).set idx y), e5, List.take_set_of_le (by omega), List.take_append_drop]
/-- a bent message is not taken -/
theorem bent_take {c : Ch} {d X : ByteArray} {idx y : Nat} (hn : c.n < 18446744073709551615) (hm : c.m.size ≤ 100) (hd : d.size ≤ 100) (hi : idx < (boxS c.K c.m c.n d).size) (hy : y < 256) (hne : y ≠ Bl.nth (tn (boxS c.K c.m c.n d)) idx)
    (hX : X = bs ((tn (boxS c.K c.m c.n d)).set idx y)) (hz : X.size = (boxS c.K c.m c.n d).size)
    (hap : apt (rowN (headD c.m c.n) ((boxS c.K c.m c.n d).extract 0 ((boxS c.K c.m c.n d).size - 32))) (rowN (headD c.m c.n) (X.extract 0 ((boxS c.K c.m c.n d).size - 32)))
      (Bl.keyed (Bl.keyed (Bl.keyed c.K wS) wT) (tn (rowN (headD c.m c.n) ((boxS c.K c.m c.n d).extract 0 ((boxS c.K c.m c.n d).size - 32))))) (Bl.keyed (Bl.keyed (Bl.keyed c.K wS) wT) (tn (rowN (headD c.m c.n) (X.extract 0 ((boxS c.K c.m c.n d).size - 32))))) = true) :
    takeR c (rowL [c.m, num8 c.n, X]) = bad 5 := by
  have zb := boxS_size c.K c.m c.n d
  have hhs := headD_size c.m c.n (by omega)
  rw [takeR_row (by
    intro s hs
    simp at hs
    rcases hs with rfl | rfl | rfl
    · omega
    · rw [num8_size]; omega
    · omega)]
  show (if (num8 c.n).size = 8 then (if c.m = c.m then take2 c (Nu.getB (Un.Nm.toL (num8 c.n))) X else bad 7) else bad 3) = bad 5
  rw [if_pos (num8_size _), if_pos rfl, num8_get (by omega)]
  unfold take2
  rw [if_neg (by omega), if_neg (by omega)]
  have e0 : it c.K (c.n - c.n) = c.K := by rw [Nat.sub_self]; rfl
  have ho : openD (Bl.keyed (it c.K (c.n - c.n)) wS) (headD c.m c.n) X = (⟨#[]⟩, 5) := by
    rw [e0]
    refine bent_open (K := X) (by omega) (by omega) (by omega) hi hy hne ?_ hX hap
    have zB := bodyD_size (K := Bl.keyed c.K wS) (d := d) (nonD8_len c.n)
    unfold boxS
    have z := boxD_size (K := Bl.keyed c.K wS) (h := headD c.m c.n) (d := d) (nonD8_len c.n)
    have e1 : (boxD (Bl.keyed c.K wS) (nonD (num8 c.n)) (headD c.m c.n) d).extract 0 ((boxD (Bl.keyed c.K wS) (nonD (num8 c.n)) (headD c.m c.n) d).size - 32) = bodyD (Bl.keyed c.K wS) (nonD (num8 c.n)) d := left_cut _ _ _ (by omega)
    rw [e1]
    exact right_cut _ _ _ _ (by omega) rfl
  rw [take3_bad ho (by decide)]
end Go.Proofs.YtaoaebdjinlcnaaDoor
