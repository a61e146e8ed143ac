/-
  Plain mathematics of a program's file: its words as bytes, what is read of bytes, and that both fit.
-/
import Derived.Test.YtkbelpkmlmfedaaNu
import Derived.Test.YtkbelpkmlmfedaaNv
namespace Go.Proofs.Ytkbelpkmlmfedaa
namespace Em
set_option linter.unusedVariables false
set_option linter.unusedSimpArgs false
/-- a program: words, data, room, entry -/
structure Ex where
  t : List Nat
  d : List UInt8
  r : Int
  e : Nat
def Wd (t : List Nat) : Prop := ∀ x ∈ t, x < 4294967296
/-- pages of so many bytes -/
def pg (n : Int) : Int := (n + 127) / 128
def bad (x : Ex) : Prop := x.t.length < 1 ∨ 448 < x.t.length ∨ x.e % 4 ≠ 0 ∨ 4 * x.t.length ≤ x.e ∨ x.r < 0 ∨ 1792 < x.r ∨ 1792 < x.d.length ∨ 14 < pg (4 * (x.t.length : Int)) + pg ((x.d.length : Int) + x.r)
instance (x : Ex) : Decidable (bad x) := by unfold bad; infer_instance
def chk (x : Ex) : Nat := if bad x then 1 else 0
theorem chk_bad {x : Ex} (h : bad x) : chk x = 1 := if_pos h
theorem chk_ok {x : Ex} (h : ¬ bad x) : chk x = 0 := if_neg h
/-- the words' bytes -/
def txt (t : List Nat) : List UInt8 := (t.map fun w => Nu.putB w 4).flatten
theorem txt_nil : txt [] = [] := rfl
theorem txt_cons (w : Nat) (t : List Nat) : txt (w :: t) = Nu.putB w 4 ++ txt t := rfl
theorem txt_append (a b : List Nat) : txt (a ++ b) = txt a ++ txt b := by simp [txt]
theorem txt_one (w : Nat) : txt [w] = Nu.putB w 4 := by simp [txt]
theorem txt_len : ∀ t : List Nat, (txt t).length = 4 * t.length
  | [] => rfl
  | w :: t => by rw [txt_cons, List.length_append, Nu.putB_length, txt_len t]; simp; omega
def magic : List UInt8 := [104, 105, 98, 120]
/-- the file -/
def head (x : Ex) : List UInt8 := magic ++ Nu.putB x.e 4 ++ Nu.putB x.t.length 2 ++ Nu.putB x.d.length 2 ++ Nu.putB x.r.toNat 2
def file (x : Ex) : List UInt8 := head x ++ txt x.t ++ x.d
theorem head_len (x : Ex) : (head x).length = 14 := by simp [head, magic, Nu.putB_length]
theorem file_len (x : Ex) : (file x).length = 14 + 4 * x.t.length + x.d.length := by simp [file, head_len, txt_len]; omega
/-- bytes from a place on -/
def at' (b : List UInt8) (i n : Nat) : List UInt8 := (b.drop i).take n
theorem at_len (b : List UInt8) (i n : Nat) (h : i + n ≤ b.length) : (at' b i n).length = n := by simp [at']; omega
/-- the words that are read -/
def rdw (b : List UInt8) : Nat → Nat → List Nat
  | _, 0 => []
  | i, n + 1 => Nu.getB (at' b i 4) :: rdw b (i + 4) n
theorem rdw_len (b : List UInt8) : ∀ n i, (rdw b i n).length = n
  | 0, _ => rfl
  | n + 1, i => by simp [rdw, rdw_len b n]
theorem rdw_snoc (b : List UInt8) : ∀ n i, rdw b i (n + 1) = rdw b i n ++ [Nu.getB (at' b (i + 4 * n) 4)]
  | 0, i => by simp [rdw]
  | n + 1, i => by
    rw [rdw, rdw_snoc b n (i + 4), rdw]
    simp
    congr 2
    omega
theorem rdw_wd (b : List UInt8) : ∀ n i, Wd (rdw b i n)
  | 0, _, x, h => by simp [rdw] at h
  | n + 1, i, x, h => by
    rw [rdw] at h
    rcases List.mem_cons.1 h with rfl | h
    · have := Nu.getB_lt (at' b i 4)
      have h2 : (at' b i 4).length ≤ 4 := by simp [at']; omega
      have h3 : 256 ^ (at' b i 4).length ≤ 256 ^ 4 := Nat.pow_le_pow_right (by omega) h2
      omega
    · exact rdw_wd b n (i + 4) x h
/-- how many words, and bytes of data, are said -/
def nw (b : List UInt8) : Nat := Nu.getB (at' b 8 2)
def nd (b : List UInt8) : Nat := Nu.getB (at' b 10 2)
def of (b : List UInt8) : Ex := ⟨rdw b 14 (nw b), at' b (14 + 4 * nw b) (nd b), (Nu.getB (at' b 12 2) : Nat), Nu.getB (at' b 4 4)⟩
/-- why bytes are no program's, or none -/
def err (b : List UInt8) : Nat :=
  if b.take 4 ≠ magic.take b.length then 3
  else if b.length < 14 then 4
  else if b.length < 14 + 4 * nw b + nd b then 4
  else if 14 + 4 * nw b + nd b < b.length then 3
  else if bad (of b) then 3 else 0
theorem get_lt (l : List UInt8) (n : Nat) (h : l.length ≤ n) : Nu.getB l < 256 ^ n := Nat.lt_of_lt_of_le (Nu.getB_lt l) (Nat.pow_le_pow_right (by omega) h)
theorem at_le (b : List UInt8) (i n : Nat) : (at' b i n).length ≤ n := by simp [at']; omega
theorem nw_lt (b : List UInt8) : nw b < 65536 := get_lt _ 2 (at_le _ _ _)
theorem nd_lt (b : List UInt8) : nd b < 65536 := get_lt _ 2 (at_le _ _ _)
theorem of_e (b : List UInt8) : (of b).e < 4294967296 := get_lt _ 4 (at_le _ _ _)
/-- bytes by pieces -/
theorem at_split (b : List UInt8) (i n m : Nat) : at' b i (n + m) = at' b i n ++ at' b (i + n) m := by
  unfold at'
  rw [List.take_add, List.drop_drop]
theorem txt_rdw (b : List UInt8) : ∀ n i, i + 4 * n ≤ b.length → txt (rdw b i n) = at' b i (4 * n)
  | 0, i, _ => by simp [rdw, txt, at']
  | n + 1, i, h => by
    rw [rdw, txt_cons, txt_rdw b n (i + 4) (by omega), show 4 * (n + 1) = 4 + 4 * n from by omega, at_split]
    congr 1
    have := Nu.put_get (at' b i 4)
    rwa [at_len b i 4 (by omega)] at this
/-- what is read is written as it was -/
theorem file_of (b : List UInt8) (h : err b = 0) : file (of b) = b := by
  unfold err at h
  by_cases h1 : b.take 4 ≠ magic.take b.length
  · rw [if_pos h1] at h; cases h
  rw [if_neg h1] at h
  by_cases h2 : b.length < 14
  · rw [if_pos h2] at h; cases h
  rw [if_neg h2] at h
  by_cases h3 : b.length < 14 + 4 * nw b + nd b
  · rw [if_pos h3] at h; cases h
  rw [if_neg h3] at h
  by_cases h4 : 14 + 4 * nw b + nd b < b.length
  · rw [if_pos h4] at h; cases h
  have hl : b.length = 14 + 4 * nw b + nd b := by omega
  have hm : at' b 0 4 = magic := by
    have := Decidable.of_not_not h1
    rw [show magic.take b.length = magic from List.take_of_length_le (by simp [magic]; omega)] at this
    simpa [at'] using this
  have pg : ∀ i n, i + n ≤ b.length → Nu.putB (Nu.getB (at' b i n)) n = at' b i n := fun i n hi => by
    have := Nu.put_get (at' b i n)
    rwa [at_len b i n hi] at this
  unfold file head of
  dsimp only
  have e1 : (rdw b 14 (nw b)).length = nw b := rdw_len _ _ _
  have e2 : (at' b (14 + 4 * nw b) (nd b)).length = nd b := at_len _ _ _ (by omega)
  rw [e1, e2, Int.toNat_natCast, txt_rdw b _ _ (by omega), pg 4 4 (by omega), pg 12 2 (by omega)]
  unfold nw nd at *
  rw [pg 8 2 (by omega), pg 10 2 (by omega), ← hm]
  have J : ∀ i n m, i + n = m → at' b 0 i ++ at' b i n = at' b 0 m := fun i n m h => by
    have := at_split b 0 i n
    rw [Nat.zero_add, h] at this
    exact this.symm
  rw [J 4 4 8 rfl, J 8 2 10 rfl, J 10 2 12 rfl, J 12 2 14 rfl, J 14 _ _ rfl, J _ _ _ rfl]
  show (b.drop 0).take _ = b
  rw [List.drop_zero]
  exact List.take_of_length_le (Nat.le_of_eq hl)
/-- what is written is read as it is -/
theorem at_front (a c : List UInt8) (n : Nat) (h : a.length = n) : at' (a ++ c) 0 n = a := by subst h; simp [at']
theorem at_mid (a m c : List UInt8) (i n : Nat) (hi : a.length = i) (hn : m.length = n) : at' (a ++ (m ++ c)) i n = m := by subst hi hn; simp [at']
theorem rdw_txt : ∀ (t : List Nat) (a c : List UInt8), Wd t → rdw (a ++ (txt t ++ c)) a.length t.length = t
  | [], a, c, _ => rfl
  | w :: t, a, c, h => by
    rw [List.length_cons, rdw, txt_cons, List.append_assoc, at_mid a (Nu.putB w 4) _ _ 4 rfl (Nu.putB_length _ _), Nu.get_put, Nat.mod_eq_of_lt (h w (by simp))]
    congr 1
    have := rdw_txt t (a ++ Nu.putB w 4) c (fun x hx => h x (by simp [hx]))
    rw [List.length_append, Nu.putB_length, List.append_assoc] at this
    exact this
structure Fit (x : Ex) : Prop where
  t : x.t.length < 65536
  d : x.d.length < 65536
  r0 : 0 ≤ x.r
  r1 : x.r < 65536
  e : x.e < 4294967296
  w : Wd x.t
theorem fit_ok {x : Ex} (h : ¬ bad x) (he : x.e < 4294967296) (hw : Wd x.t) : Fit x := by
  unfold bad at h
  exact ⟨by omega, by omega, by omega, by omega, he, hw⟩
theorem get_put' (n k : Nat) (h : n < 256 ^ k) : Nu.getB (Nu.putB n k) = n := by rw [Nu.get_put, Nat.mod_eq_of_lt h]
theorem parts {x : Ex} (h : Fit x) (c : List UInt8) : nw (file x ++ c) = x.t.length ∧ nd (file x ++ c) = x.d.length ∧ Nu.getB (at' (file x ++ c) 12 2) = x.r.toNat ∧ Nu.getB (at' (file x ++ c) 4 4) = x.e ∧ at' (file x ++ c) 0 4 = magic := by
  have lp := Nu.putB_length
  have lm : magic.length = 4 := rfl
  have hr := h.r0
  have hr1 := h.r1
  have f : file x ++ c = magic ++ (Nu.putB x.e 4 ++ (Nu.putB x.t.length 2 ++ (Nu.putB x.d.length 2 ++ (Nu.putB x.r.toNat 2 ++ (txt x.t ++ (x.d ++ c)))))) := by simp [file, head]
  refine ⟨?_, ?_, ?_, ?_, ?_⟩
  · unfold nw
    rw [f, ← List.append_assoc, at_mid _ _ _ 8 2 (by simp [lm, lp]) (lp _ _), get_put' _ 2 h.t]
  · unfold nd
    rw [f, ← List.append_assoc, ← List.append_assoc, at_mid _ _ _ 10 2 (by simp [lm, lp]) (lp _ _), get_put' _ 2 h.d]
  · rw [f, ← List.append_assoc, ← List.append_assoc, ← List.append_assoc, at_mid _ _ _ 12 2 (by simp [lm, lp]) (lp _ _), get_put' _ 2 (by omega)]
  · rw [f, at_mid _ _ _ 4 4 lm (lp _ _), get_put' _ 4 h.e]
  · rw [f, at_front _ _ 4 lm]
theorem of_file {x : Ex} (h : Fit x) (c : List UInt8) : of (file x ++ c) = x := by
  obtain ⟨p1, p2, p3, p4, -⟩ := parts h c
  unfold of
  rw [p1, p2, p3, p4]
  obtain ⟨t, d, r, e⟩ := x
  have lh := head_len ⟨t, d, r, e⟩
  have f : file ⟨t, d, r, e⟩ ++ c = head ⟨t, d, r, e⟩ ++ (txt t ++ (d ++ c)) := by simp [file]
  have f2 : file ⟨t, d, r, e⟩ ++ c = (head ⟨t, d, r, e⟩ ++ txt t) ++ (d ++ c) := by simp [file]
  dsimp only
  have e1 : rdw (file ⟨t, d, r, e⟩ ++ c) 14 t.length = t := by rw [f, ← lh]; exact rdw_txt t _ _ h.w
  have e2 : at' (file ⟨t, d, r, e⟩ ++ c) (14 + 4 * t.length) d.length = d := by rw [f2]; exact at_mid _ _ _ _ _ (by simp [lh, txt_len]) rfl
  rw [e1, e2]
  congr 1
  have := h.r0
  dsimp only at this
  omega
theorem err_file {x : Ex} (h : ¬ bad x) (he : x.e < 4294967296) (hw : Wd x.t) : err (file x) = 0 := by
  have ft := fit_ok h he hw
  have p := parts ft []
  have o := of_file ft []
  rw [List.append_nil] at p o
  obtain ⟨p1, p2, -, -, p5⟩ := p
  have hl := file_len x
  unfold err
  rw [p1, p2, o, if_neg, if_neg (by omega), if_neg (by omega), if_neg (by omega), if_neg h]
  simp only [ne_eq, Decidable.not_not]
  rw [show (file x).take 4 = at' (file x) 0 4 from by simp [at'], p5, List.take_of_length_le (by simp [magic]; omega)]
/-- cut short it is told to be short -/
theorem err_cut {x : Ex} (h : ¬ bad x) (he : x.e < 4294967296) (hw : Wd x.t) (k : Nat) (hk : k < (file x).length) : err ((file x).take k) = 4 := by
  have ft := fit_ok h he hw
  have p := parts ft []
  rw [List.append_nil] at p
  obtain ⟨p1, p2, -, -, p5⟩ := p
  have hl := file_len x
  have lk : ((file x).take k).length = k := by simp; omega
  have hat : ∀ i n, i + n ≤ k → at' ((file x).take k) i n = at' (file x) i n := fun i n hi => by
    unfold at'
    rw [List.drop_take, List.take_take]
    congr 1
    omega
  have m1 : ((file x).take k).take 4 = magic.take k := by
    have : (file x).take 4 = magic := by rw [show (file x).take 4 = at' (file x) 0 4 from by simp [at'], p5]
    rw [← this, List.take_take, List.take_take, Nat.min_comm]
  unfold err
  rw [lk, if_neg (by rw [m1]; simp)]
  by_cases h14 : k < 14
  · rw [if_pos h14]
  · rw [if_neg h14]
    have e1 : nw ((file x).take k) = x.t.length := by unfold nw; rw [hat 8 2 (by omega)]; exact p1
    have e2 : nd ((file x).take k) = x.d.length := by unfold nd; rw [hat 10 2 (by omega)]; exact p2
    rw [e1, e2, if_pos (by omega)]
theorem err_more {x : Ex} (h : ¬ bad x) (he : x.e < 4294967296) (hw : Wd x.t) (c : UInt8) : err (file x ++ [c]) = 3 := by
  have ft := fit_ok h he hw
  obtain ⟨p1, p2, -, -, p5⟩ := parts ft [c]
  have hl := file_len x
  have ll : (file x ++ [c]).length = (file x).length + 1 := by simp
  unfold err
  rw [p1, p2, ll]
  rw [if_neg, if_neg (by omega), if_neg (by omega), if_pos (by omega)]
  simp only [ne_eq, Decidable.not_not]
  rw [show (file x ++ [c]).take 4 = at' (file x ++ [c]) 0 4 from by simp [at'], p5, List.take_of_length_le (by simp [magic]; omega)]
end Em
end Go.Proofs.Ytkbelpkmlmfedaa
