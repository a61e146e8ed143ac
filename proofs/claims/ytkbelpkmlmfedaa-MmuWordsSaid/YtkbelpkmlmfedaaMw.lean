/-
  A space as cells; THE WALKS of Find, the code's and the document's, and of the question whether there is such a frame.
-/
import Derived.Test.YtkbelpkmlmfedaaMm
import Derived.Test.YtkbelpkmlmfedaaEa
import Derived.Laws.Rows
import Derived.Deep.MidRow
namespace Go.Proofs.Ytkbelpkmlmfedaa
set_option linter.unusedVariables false
set_option maxRecDepth 100000
set_option linter.unusedSimpArgs false
open Go.RowKit
namespace Mo
open _root_.Go.Proofs.Ytkbelpkmlmfedaa.Nm _root_.Go.Proofs.Ytkbelpkmlmfedaa.Xe
def pv (p : Mm.Pt) : List Value := [.bool p.is, .bool p.wr, .int .i64 p.f]
def sl (s : Mm.Sp) : List Value := s.flatMap pv
def sc (s : Mm.Sp) : Array Value := (sl s).toArray
structure SpOk (s : Mm.Sp) : Prop where
  n : s.length = 16
  lo : ∀ i, -9223372036854775808 ≤ (Mm.pt s i).f
  hi : ∀ i, (Mm.pt s i).f ≤ 9223372036854775807
theorem sl_length : ∀ s : Mm.Sp, (sl s).length = s.length * 3
  | [] => rfl
  | p :: s => by
    have := sl_length s
    unfold sl at this ⊢
    rw [List.flatMap_cons, List.length_append, this, List.length_cons]
    show 3 + _ = _
    omega
theorem sl_get : ∀ (s : Mm.Sp) (i : Nat), i < s.length → (sl s)[i * 3]? = some (.bool (Mm.pt s i).is) ∧ (sl s)[i * 3 + 1]? = some (.bool (Mm.pt s i).wr) ∧ (sl s)[i * 3 + 2]? = some (.int .i64 (Mm.pt s i).f)
  | [], i, h => by simp at h
  | p :: s, 0, h => ⟨rfl, rfl, rfl⟩
  | p :: s, i + 1, h => by
    have := sl_get s i (by simpa using h)
    have e : sl (p :: s) = pv p ++ sl s := rfl
    have l : (pv p).length = 3 := rfl
    rw [e, show (i + 1) * 3 = i * 3 + 3 from by omega]
    rw [List.getElem?_append_right (by omega), List.getElem?_append_right (by omega), List.getElem?_append_right (by omega), l]
    rw [show i * 3 + 3 - 3 = i * 3 from by omega, show i * 3 + 3 + 1 - 3 = i * 3 + 1 from by omega, show i * 3 + 3 + 2 - 3 = i * 3 + 2 from by omega]
    exact this
theorem sc_size {s : Mm.Sp} (h : SpOk s) : (sc s).size = 48 := by
  unfold sc
  rw [List.size_toArray, sl_length, h.n]
theorem sc_cells {s : Mm.Sp} (hs : SpOk s) {w : World} {g : Nat} {t : TypeId} (h : Own w g t (sc s)) (i : Nat) (hi : i < 16) :
    w.cell? ⟨g, i * 3, none⟩ = some (.bool (Mm.pt s i).is) ∧ w.cell? ⟨g, i * 3 + 1, none⟩ = some (.bool (Mm.pt s i).wr) ∧ w.cell? ⟨g, i * 3 + 2, none⟩ = some (.int .i64 (Mm.pt s i).f) := by
  have := sl_get s i (by rw [hs.n]; exact hi)
  rw [h.cell, h.cell, h.cell]
  unfold sc
  simpa using this
theorem info57 : (Try.prog.info? 57).map (·.size) = some 48 := by kernel_rfl
/-- a space is read whole -/
theorem ls {ops : Array Oper} {rest : List Oper} {o : Oper} {a : Act} {w : World} {Q : Exit → Act → World → Prop} {x : Operand} {g : Nat} {s : Mm.Sp}
    (hgd : o.guard = none) (ho : o.op = .load 57 x) (hx : a.eval x = .pointer (some ⟨g, 0, none⟩)) (hs : SpOk s) (hg : Own w g 57 (sc s))
    (h : wpList Try.prog ops Q rest (a.put o.dst (.agg (sc s))) w) : wpList Try.prog ops Q (o :: rest) a w :=
  wpList_load_row hgd 57 x ho g hx 57 (sc s) (0, 0) _ hg Try.underlying57 rfl (by rw [info57, sc_size hs]) h
/-- what Find answers -/
def FindIs (r : Option (Int × Nat)) (e : Ending) : Prop := e = .returned (.tuple #[.int .i64 ((r.map (·.1)).getD 0), .int .i64 ((r.map (·.2)).getD 0 : Nat), .bool r.isSome])
theorem find_ok {s : Mm.Sp} {q : Nat} {n : Int} {wt : Bool} (hok : Mm.okAt q n) : Mm.find s q n wt = if Mm.may (Mm.pt s (q / 128)) wt then some ((Mm.pt s (q / 128)).f, q % 128) else none := by
  unfold Mm.find
  by_cases hm : Mm.may (Mm.pt s (q / 128)) wt
  · rw [if_pos ⟨hok, hm⟩, if_pos hm]
  · rw [if_neg (fun k => hm k.2), if_neg hm]
theorem find_no {s : Mm.Sp} {q : Nat} {n : Int} {wt : Bool} (hok : ¬ Mm.okAt q n) : Mm.find s q n wt = none := if_neg fun k => hok k.1
set_option maxHeartbeats 2000000 in
theorem find_any (s : Mm.Sp) (hs : SpOk s) (q : Nat) (n : Int) (wt : Bool) (w : World) (hq : q < 4294967296) (h0 : -9223372036854775808 ≤ n) (h1 : n ≤ 9223372036854775807) :
    Calls Try.prog 31 #[.agg (sc s), .int .u32 (q : Nat), .int .i64 n, .bool wt] w fun e w' => FindIs (Mm.find s q n wt) e ∧ Below w.heap.size w w' := by
  have hb := grow w (Obj.cells (sc s) 57)
  have ho := Own.new w 57 (sc s)
  unfold FindIs
  by_cases hok : Mm.okAt q n
  · have hi : q / 128 < 16 := by have := hok.2.1; omega
    obtain ⟨c0, c1, c2⟩ := sc_cells hs ho _ hi
    rw [find_ok hok]
    generalize Mm.pt s (q / 128) = p at *
    obtain ⟨is, wr, f⟩ := p
    dsimp only at *
    obtain ⟨k1, k2, k3⟩ := hok
    have d2 : ¬ (2048 : Int) ≤ (q : Int) := by omega
    have hb2 : Below w.heap.size w ((w.alloc (Obj.cells (sc s) 57)).alloc (Obj.cells #[.bool is, .bool wr, .int .i64 f] 55)) := hb.alloc (by simp) _
    rcases k1 with rfl | rfl
    · clear k3
      cases is
      · cases wr
        · cases wt
          · rw [if_neg (by unfold Mm.may; simp)]
            go_enter Try.func31, Try.ntmps31
            go_wp2_with fail
            exact bodyPost_ret (v := .tuple #[.int .i64 0, .int .i64 0, .bool false]) (by simp [results, Try.results31, go_sem]) rfl ⟨rfl, hb2⟩
          · rw [if_neg (by unfold Mm.may; simp)]
            go_enter Try.func31, Try.ntmps31
            go_wp2_with fail
            exact bodyPost_ret (v := .tuple #[.int .i64 0, .int .i64 0, .bool false]) (by simp [results, Try.results31, go_sem]) rfl ⟨rfl, hb2⟩
        · cases wt
          · rw [if_neg (by unfold Mm.may; simp)]
            go_enter Try.func31, Try.ntmps31
            go_wp2_with fail
            exact bodyPost_ret (v := .tuple #[.int .i64 0, .int .i64 0, .bool false]) (by simp [results, Try.results31, go_sem]) rfl ⟨rfl, hb2⟩
          · rw [if_neg (by unfold Mm.may; simp)]
            go_enter Try.func31, Try.ntmps31
            go_wp2_with fail
            exact bodyPost_ret (v := .tuple #[.int .i64 0, .int .i64 0, .bool false]) (by simp [results, Try.results31, go_sem]) rfl ⟨rfl, hb2⟩
      · cases wr
        · cases wt
          · rw [if_pos (by unfold Mm.may; simp)]
            go_enter Try.func31, Try.ntmps31
            go_wp2_with fail
            exact bodyPost_ret (v := .tuple #[.int .i64 f, .int .i64 ((q % 128 : Nat) : Int), .bool true]) (by simp [results, Try.results31, go_sem]) rfl ⟨rfl, hb2⟩
          · rw [if_neg (by unfold Mm.may; simp)]
            go_enter Try.func31, Try.ntmps31
            go_wp2_with fail
            exact bodyPost_ret (v := .tuple #[.int .i64 0, .int .i64 0, .bool false]) (by simp [results, Try.results31, go_sem]) rfl ⟨rfl, hb2⟩
        · cases wt
          · rw [if_pos (by unfold Mm.may; simp)]
            go_enter Try.func31, Try.ntmps31
            go_wp2_with fail
            exact bodyPost_ret (v := .tuple #[.int .i64 f, .int .i64 ((q % 128 : Nat) : Int), .bool true]) (by simp [results, Try.results31, go_sem]) rfl ⟨rfl, hb2⟩
          · rw [if_pos (by unfold Mm.may; simp)]
            go_enter Try.func31, Try.ntmps31
            go_wp2_with fail
            exact bodyPost_ret (v := .tuple #[.int .i64 f, .int .i64 ((q % 128 : Nat) : Int), .bool true]) (by simp [results, Try.results31, go_sem]) rfl ⟨rfl, hb2⟩
    · have d3 : (q : Int) % 4 = 0 := by
        have : q % 4 = 0 := k3
        omega
      clear k3
      cases is
      · cases wr
        · cases wt
          · rw [if_neg (by unfold Mm.may; simp)]
            go_enter Try.func31, Try.ntmps31
            go_wp2_with fail
            exact bodyPost_ret (v := .tuple #[.int .i64 0, .int .i64 0, .bool false]) (by simp [results, Try.results31, go_sem]) rfl ⟨rfl, hb2⟩
          · rw [if_neg (by unfold Mm.may; simp)]
            go_enter Try.func31, Try.ntmps31
            go_wp2_with fail
            exact bodyPost_ret (v := .tuple #[.int .i64 0, .int .i64 0, .bool false]) (by simp [results, Try.results31, go_sem]) rfl ⟨rfl, hb2⟩
        · cases wt
          · rw [if_neg (by unfold Mm.may; simp)]
            go_enter Try.func31, Try.ntmps31
            go_wp2_with fail
            exact bodyPost_ret (v := .tuple #[.int .i64 0, .int .i64 0, .bool false]) (by simp [results, Try.results31, go_sem]) rfl ⟨rfl, hb2⟩
          · rw [if_neg (by unfold Mm.may; simp)]
            go_enter Try.func31, Try.ntmps31
            go_wp2_with fail
            exact bodyPost_ret (v := .tuple #[.int .i64 0, .int .i64 0, .bool false]) (by simp [results, Try.results31, go_sem]) rfl ⟨rfl, hb2⟩
      · cases wr
        · cases wt
          · rw [if_pos (by unfold Mm.may; simp)]
            go_enter Try.func31, Try.ntmps31
            go_wp2_with fail
            exact bodyPost_ret (v := .tuple #[.int .i64 f, .int .i64 ((q % 128 : Nat) : Int), .bool true]) (by simp [results, Try.results31, go_sem]) rfl ⟨rfl, hb2⟩
          · rw [if_neg (by unfold Mm.may; simp)]
            go_enter Try.func31, Try.ntmps31
            go_wp2_with fail
            exact bodyPost_ret (v := .tuple #[.int .i64 0, .int .i64 0, .bool false]) (by simp [results, Try.results31, go_sem]) rfl ⟨rfl, hb2⟩
        · cases wt
          · rw [if_pos (by unfold Mm.may; simp)]
            go_enter Try.func31, Try.ntmps31
            go_wp2_with fail
            exact bodyPost_ret (v := .tuple #[.int .i64 f, .int .i64 ((q % 128 : Nat) : Int), .bool true]) (by simp [results, Try.results31, go_sem]) rfl ⟨rfl, hb2⟩
          · rw [if_pos (by unfold Mm.may; simp)]
            go_enter Try.func31, Try.ntmps31
            go_wp2_with fail
            exact bodyPost_ret (v := .tuple #[.int .i64 f, .int .i64 ((q % 128 : Nat) : Int), .bool true]) (by simp [results, Try.results31, go_sem]) rfl ⟨rfl, hb2⟩
  · rw [find_no hok]
    by_cases e1 : n = 1
    · subst e1
      have d2 : (2048 : Int) ≤ (q : Int) := by
        by_cases k : q < 2048
        · exact absurd ⟨.inl rfl, k, Nat.mod_one q⟩ hok
        · omega
      go_enter Try.func31, Try.ntmps31
      go_wp2_with fail
      exact bodyPost_ret (v := .tuple #[.int .i64 0, .int .i64 0, .bool false]) (by simp [results, Try.results31, go_sem]) rfl ⟨rfl, hb⟩
    · by_cases e4 : n = 4
      · subst e4
        by_cases k : q < 2048
        · have d2 : ¬ (2048 : Int) ≤ (q : Int) := by omega
          have d3 : ¬ (q : Int) % 4 = 0 := fun h => hok ⟨.inr rfl, k, by show q % 4 = 0; omega⟩
          go_enter Try.func31, Try.ntmps31
          go_wp2_with fail
          exact bodyPost_ret (v := .tuple #[.int .i64 0, .int .i64 0, .bool false]) (by simp [results, Try.results31, go_sem]) rfl ⟨rfl, hb⟩
        · have d2 : (2048 : Int) ≤ (q : Int) := by omega
          go_enter Try.func31, Try.ntmps31
          go_wp2_with fail
          exact bodyPost_ret (v := .tuple #[.int .i64 0, .int .i64 0, .bool false]) (by simp [results, Try.results31, go_sem]) rfl ⟨rfl, hb⟩
      · go_enter Try.func31, Try.ntmps31
        go_wp2_with fail
        exact bodyPost_ret (v := .tuple #[.int .i64 0, .int .i64 0, .bool false]) (by simp [results, Try.results31, go_sem]) rfl ⟨rfl, hb⟩
set_option maxHeartbeats 2000000 in
theorem rfind_any (s : Mm.Sp) (hs : SpOk s) (q : Nat) (n : Int) (wt : Bool) (w : World) (hq : q < 4294967296) (h0 : -9223372036854775808 ≤ n) (h1 : n ≤ 9223372036854775807) :
    Calls Try.prog 32 #[.agg (sc s), .int .u32 (q : Nat), .int .i64 n, .bool wt] w fun e w' => FindIs (Mm.find s q n wt) e ∧ Below w.heap.size w w' := by
  have hb := grow w (Obj.cells (sc s) 57)
  have ho := Own.new w 57 (sc s)
  unfold FindIs
  by_cases hok : Mm.okAt q n
  · have hi : q / 128 < 16 := by have := hok.2.1; omega
    obtain ⟨c0, c1, c2⟩ := sc_cells hs ho _ hi
    rw [find_ok hok]
    generalize Mm.pt s (q / 128) = p at *
    obtain ⟨is, wr, f⟩ := p
    dsimp only at *
    obtain ⟨k1, k2, k3⟩ := hok
    have d2 : ¬ (2048 : Int) ≤ (q : Int) := by omega
    have hb2 : Below w.heap.size w ((w.alloc (Obj.cells (sc s) 57)).alloc (Obj.cells #[.bool is, .bool wr, .int .i64 f] 55)) := hb.alloc (by simp) _
    rcases k1 with rfl | rfl
    · clear k3
      cases is
      · cases wr
        · cases wt
          · rw [if_neg (by unfold Mm.may; simp)]
            go_enter Try.func32, Try.ntmps32
            go_wp2_with fail
            exact bodyPost_ret (v := .tuple #[.int .i64 0, .int .i64 0, .bool false]) (by simp [results, Try.results32, go_sem]) rfl ⟨rfl, hb2⟩
          · rw [if_neg (by unfold Mm.may; simp)]
            go_enter Try.func32, Try.ntmps32
            go_wp2_with fail
            exact bodyPost_ret (v := .tuple #[.int .i64 0, .int .i64 0, .bool false]) (by simp [results, Try.results32, go_sem]) rfl ⟨rfl, hb2⟩
        · cases wt
          · rw [if_neg (by unfold Mm.may; simp)]
            go_enter Try.func32, Try.ntmps32
            go_wp2_with fail
            exact bodyPost_ret (v := .tuple #[.int .i64 0, .int .i64 0, .bool false]) (by simp [results, Try.results32, go_sem]) rfl ⟨rfl, hb2⟩
          · rw [if_neg (by unfold Mm.may; simp)]
            go_enter Try.func32, Try.ntmps32
            go_wp2_with fail
            exact bodyPost_ret (v := .tuple #[.int .i64 0, .int .i64 0, .bool false]) (by simp [results, Try.results32, go_sem]) rfl ⟨rfl, hb2⟩
      · cases wr
        · cases wt
          · rw [if_pos (by unfold Mm.may; simp)]
            go_enter Try.func32, Try.ntmps32
            go_wp2_with fail
            exact bodyPost_ret (v := .tuple #[.int .i64 f, .int .i64 ((q % 128 : Nat) : Int), .bool true]) (by simp [results, Try.results32, go_sem]) rfl ⟨rfl, hb2⟩
          · rw [if_neg (by unfold Mm.may; simp)]
            go_enter Try.func32, Try.ntmps32
            go_wp2_with fail
            exact bodyPost_ret (v := .tuple #[.int .i64 0, .int .i64 0, .bool false]) (by simp [results, Try.results32, go_sem]) rfl ⟨rfl, hb2⟩
        · cases wt
          · rw [if_pos (by unfold Mm.may; simp)]
            go_enter Try.func32, Try.ntmps32
            go_wp2_with fail
            exact bodyPost_ret (v := .tuple #[.int .i64 f, .int .i64 ((q % 128 : Nat) : Int), .bool true]) (by simp [results, Try.results32, go_sem]) rfl ⟨rfl, hb2⟩
          · rw [if_pos (by unfold Mm.may; simp)]
            go_enter Try.func32, Try.ntmps32
            go_wp2_with fail
            exact bodyPost_ret (v := .tuple #[.int .i64 f, .int .i64 ((q % 128 : Nat) : Int), .bool true]) (by simp [results, Try.results32, go_sem]) rfl ⟨rfl, hb2⟩
    · have d3 : (q : Int) % 4 = 0 := by
        have : q % 4 = 0 := k3
        omega
      clear k3
      cases is
      · cases wr
        · cases wt
          · rw [if_neg (by unfold Mm.may; simp)]
            go_enter Try.func32, Try.ntmps32
            go_wp2_with fail
            exact bodyPost_ret (v := .tuple #[.int .i64 0, .int .i64 0, .bool false]) (by simp [results, Try.results32, go_sem]) rfl ⟨rfl, hb2⟩
          · rw [if_neg (by unfold Mm.may; simp)]
            go_enter Try.func32, Try.ntmps32
            go_wp2_with fail
            exact bodyPost_ret (v := .tuple #[.int .i64 0, .int .i64 0, .bool false]) (by simp [results, Try.results32, go_sem]) rfl ⟨rfl, hb2⟩
        · cases wt
          · rw [if_neg (by unfold Mm.may; simp)]
            go_enter Try.func32, Try.ntmps32
            go_wp2_with fail
            exact bodyPost_ret (v := .tuple #[.int .i64 0, .int .i64 0, .bool false]) (by simp [results, Try.results32, go_sem]) rfl ⟨rfl, hb2⟩
          · rw [if_neg (by unfold Mm.may; simp)]
            go_enter Try.func32, Try.ntmps32
            go_wp2_with fail
            exact bodyPost_ret (v := .tuple #[.int .i64 0, .int .i64 0, .bool false]) (by simp [results, Try.results32, go_sem]) rfl ⟨rfl, hb2⟩
      · cases wr
        · cases wt
          · rw [if_pos (by unfold Mm.may; simp)]
            go_enter Try.func32, Try.ntmps32
            go_wp2_with fail
            exact bodyPost_ret (v := .tuple #[.int .i64 f, .int .i64 ((q % 128 : Nat) : Int), .bool true]) (by simp [results, Try.results32, go_sem]) rfl ⟨rfl, hb2⟩
          · rw [if_neg (by unfold Mm.may; simp)]
            go_enter Try.func32, Try.ntmps32
            go_wp2_with fail
            exact bodyPost_ret (v := .tuple #[.int .i64 0, .int .i64 0, .bool false]) (by simp [results, Try.results32, go_sem]) rfl ⟨rfl, hb2⟩
        · cases wt
          · rw [if_pos (by unfold Mm.may; simp)]
            go_enter Try.func32, Try.ntmps32
            go_wp2_with fail
            exact bodyPost_ret (v := .tuple #[.int .i64 f, .int .i64 ((q % 128 : Nat) : Int), .bool true]) (by simp [results, Try.results32, go_sem]) rfl ⟨rfl, hb2⟩
          · rw [if_pos (by unfold Mm.may; simp)]
            go_enter Try.func32, Try.ntmps32
            go_wp2_with fail
            exact bodyPost_ret (v := .tuple #[.int .i64 f, .int .i64 ((q % 128 : Nat) : Int), .bool true]) (by simp [results, Try.results32, go_sem]) rfl ⟨rfl, hb2⟩
  · rw [find_no hok]
    by_cases e1 : n = 1
    · subst e1
      have d2 : (2048 : Int) ≤ (q : Int) := by
        by_cases k : q < 2048
        · exact absurd ⟨.inl rfl, k, Nat.mod_one q⟩ hok
        · omega
      go_enter Try.func32, Try.ntmps32
      go_wp2_with fail
      exact bodyPost_ret (v := .tuple #[.int .i64 0, .int .i64 0, .bool false]) (by simp [results, Try.results32, go_sem]) rfl ⟨rfl, hb⟩
    · by_cases e4 : n = 4
      · subst e4
        by_cases k : q < 2048
        · have d2 : ¬ (2048 : Int) ≤ (q : Int) := by omega
          have d3 : ¬ (q : Int) % 4 = 0 := fun h => hok ⟨.inr rfl, k, by show q % 4 = 0; omega⟩
          go_enter Try.func32, Try.ntmps32
          go_wp2_with fail
          exact bodyPost_ret (v := .tuple #[.int .i64 0, .int .i64 0, .bool false]) (by simp [results, Try.results32, go_sem]) rfl ⟨rfl, hb⟩
        · have d2 : (2048 : Int) ≤ (q : Int) := by omega
          go_enter Try.func32, Try.ntmps32
          go_wp2_with fail
          exact bodyPost_ret (v := .tuple #[.int .i64 0, .int .i64 0, .bool false]) (by simp [results, Try.results32, go_sem]) rfl ⟨rfl, hb⟩
      · go_enter Try.func32, Try.ntmps32
        go_wp2_with fail
        exact bodyPost_ret (v := .tuple #[.int .i64 0, .int .i64 0, .bool false]) (by simp [results, Try.results32, go_sem]) rfl ⟨rfl, hb⟩
/-- frames as lists of bytes -/
def fs (l : List ByteArray) : Mm.Fr := l.map toL
theorem fs_length (l : List ByteArray) : (fs l).length = l.length := List.length_map _
theorem fr_fs (l : List ByteArray) (i : Nat) (h : i < l.length) : Mm.fr (fs l) i = toL (nth l i) := by
  unfold Mm.fr fs nth
  simp [List.getD_eq_getElem?_getD, h]
theorem frame_any (A : Option Addr) (len cap : Nat) (l : List ByteArray) (i : Int) (w : World) (hl : Ts w A len l) (hm : len ≤ 9223372036854775807) :
    Calls Try.prog 63 #[.slice A len cap, .int .i64 i] w fun e w' => e = .returned (.bool (decide (Mm.there (fs l) i))) ∧ w = w' := by
  by_cases h0 : 0 ≤ i
  · by_cases h1 : i < (len : Int)
    · obtain ⟨k, rfl⟩ := Int.eq_ofNat_of_zero_le h0
      obtain ⟨b, off, rfl, hc⟩ := hl.2 (by omega)
      have ck := hc k (by omega)
      have e : decide (Mm.there (fs l) (k : Int)) = decide ((nth l k).size = 128) := by
        rw [decide_eq_decide]
        unfold Mm.there
        rw [fs_length, hl.1, Int.toNat_natCast, fr_fs _ _ (by rw [hl.1]; omega), toL_length]
        exact ⟨fun h => h.2.2, fun h => ⟨h0, h1, h⟩⟩
      rw [e]
      generalize nth l k = t at *
      clear hc hl
      by_cases ht : t.size = 128
      · have t1 : (t.size : Int) = 128 := by omega
        go_enter Try.func63, Try.ntmps63
        go_wp2_with fail
        go_ret
        exact ⟨by simp [ht], rfl⟩
      · have t1 : ¬ (t.size : Int) = 128 := by omega
        go_enter Try.func63, Try.ntmps63
        go_wp2_with fail
        go_ret
        exact ⟨by simp [ht]; exact t1, rfl⟩
    · have e : decide (Mm.there (fs l) i) = false := by
        rw [decide_eq_false_iff_not]
        unfold Mm.there
        rw [fs_length, hl.1]
        exact fun h => h1 h.2.1
      rw [e]
      clear hl
      go_enter Try.func63, Try.ntmps63
      go_wp2_with fail
      go_ret
      exact ⟨rfl, rfl⟩
  · have e : decide (Mm.there (fs l) i) = false := by
      rw [decide_eq_false_iff_not]
      unfold Mm.there
      exact fun h => h0 h.1
    rw [e]
    clear hl
    go_enter Try.func63, Try.ntmps63
    go_wp2_with fail
    go_ret
    exact ⟨rfl, rfl⟩
theorem rframe_any (A : Option Addr) (len cap : Nat) (l : List ByteArray) (i : Int) (w : World) (hl : Ts w A len l) (hm : len ≤ 9223372036854775807) :
    Calls Try.prog 77 #[.slice A len cap, .int .i64 i] w fun e w' => e = .returned (.bool (decide (Mm.there (fs l) i))) ∧ w = w' := by
  by_cases h0 : 0 ≤ i
  · by_cases h1 : i < (len : Int)
    · obtain ⟨k, rfl⟩ := Int.eq_ofNat_of_zero_le h0
      obtain ⟨b, off, rfl, hc⟩ := hl.2 (by omega)
      have ck := hc k (by omega)
      have e : decide (Mm.there (fs l) (k : Int)) = decide ((nth l k).size = 128) := by
        rw [decide_eq_decide]
        unfold Mm.there
        rw [fs_length, hl.1, Int.toNat_natCast, fr_fs _ _ (by rw [hl.1]; omega), toL_length]
        exact ⟨fun h => h.2.2, fun h => ⟨h0, h1, h⟩⟩
      rw [e]
      generalize nth l k = t at *
      clear hc hl
      by_cases ht : t.size = 128
      · have t1 : (t.size : Int) = 128 := by omega
        go_enter Try.func77, Try.ntmps77
        go_wp2_with fail
        go_ret
        exact ⟨by simp [ht], rfl⟩
      · have t1 : ¬ (t.size : Int) = 128 := by omega
        go_enter Try.func77, Try.ntmps77
        go_wp2_with fail
        go_ret
        exact ⟨by simp [ht]; exact t1, rfl⟩
    · have e : decide (Mm.there (fs l) i) = false := by
        rw [decide_eq_false_iff_not]
        unfold Mm.there
        rw [fs_length, hl.1]
        exact fun h => h1 h.2.1
      rw [e]
      clear hl
      go_enter Try.func77, Try.ntmps77
      go_wp2_with fail
      go_ret
      exact ⟨rfl, rfl⟩
  · have e : decide (Mm.there (fs l) i) = false := by
      rw [decide_eq_false_iff_not]
      unfold Mm.there
      exact fun h => h0 h.1
    rw [e]
    clear hl
    go_enter Try.func77, Try.ntmps77
    go_wp2_with fail
    go_ret
    exact ⟨rfl, rfl⟩
end Mo
end Go.Proofs.Ytkbelpkmlmfedaa
