/-
  THE WALKS of the document's Form and Enc.
-/
import Derived.Test.YtmafeekhbcpomaaDoorIn
namespace Go.Proofs.YtmafeekhbcpomaaDoor
open Go.RowKit
set_option linter.unusedVariables false
set_option linter.unusedSimpArgs false
def form (op : Nat) : Nat := if 1 ≤ op ∧ op ≤ 13 then 1 else if (14 ≤ op ∧ op ≤ 18) ∨ (25 ≤ op ∧ op ≤ 28) then 2 else if op = 19 ∨ op = 29 then 3 else if (20 ≤ op ∧ op ≤ 24) ∨ op = 30 then 4 else if op = 31 then 5 else 0
theorem ret_int {k : IntKind} {a b : Int} (h : a = b) : Ending.returned (.int k a) = .returned (.int k b) := by rw [h]
set_option maxRecDepth 100000 in
theorem form_any (op : Nat) (w : World) : Calls Tryd.prog 26 #[.int .u8 op] w fun e w' => e = .returned (.int .i64 (form op : Nat)) ∧ w = w' := by
  go_enter Tryd.func26, Tryd.ntmps26
  go_wp2
  all_goals
    go_ret
    refine ⟨ret_int ?_, rfl⟩
    try simp only [beq_iff_eq, beq_eq_false_iff_ne, ne_eq] at *
    unfold form
    (repeat' split) <;> omega
theorem form_is (op : Nat) : (form op = 0 ∧ ¬ Is.isOp op) ∨ (form op = 1 ∧ 1 ≤ op ∧ op ≤ 13) ∨ (form op = 2 ∧ ((14 ≤ op ∧ op ≤ 18) ∨ (25 ≤ op ∧ op ≤ 28))) ∨ (form op = 3 ∧ (op = 19 ∨ op = 29)) ∨ (form op = 4 ∧ ((20 ≤ op ∧ op ≤ 24) ∨ op = 30)) ∨ (form op = 5 ∧ op = 31) := by
  unfold form Is.isOp
  (repeat' split) <;> omega
theorem ret_two {v n : Nat} {a b : Int} (h : (v : Int) = a) (k : (n : Int) = b) : Ending.returned (.tuple #[.int .u32 a, .int .i64 b]) = .returned (.tuple #[.int .u32 (v : Nat), .int .i64 (n : Nat)]) := by rw [h, k]
set_option maxRecDepth 100000 in
set_option maxHeartbeats 40000000 in
theorem renc_any (x : Is.Ins) (hx : x.Ok) (w : World) :
    Calls Tryd.prog 12 #[.agg (ic x)] w fun e w' => e = .returned (.tuple #[.int .u32 ((Is.enc x).1 : Nat), .int .i64 ((Is.enc x).2 : Nat)]) ∧ Below w.heap.size w w' := by
  obtain ⟨o, a, b, c, m⟩ := x
  obtain ⟨h1, h2, h3, h4, h5, h6⟩ := hx
  have hf := form_is o
  have H := Lib.hid hf
  clear hf
  have hfo := fun wr => form_any o wr
  obtain ⟨V, hV⟩ : ∃ V, V = w.alloc (Obj.cells (ic ⟨o, a, b, c, m⟩) 23) := ⟨_, rfl⟩
  have b0 : Below w.heap.size w V := by rw [hV]; exact grow _ _
  obtain ⟨k0, k1, k2, k3, k4⟩ := at_new w ⟨o, a, b, c, m⟩ 23
  have hA := at_new w ⟨o, a, b, c, m⟩ 23
  rw [← hV] at hA
  obtain ⟨c0, c1, c2, c3, c4⟩ := hA
  simp only at k0 k1 k2 k3 k4 c0 c1 c2 c3 c4
  have HV := Lib.hid hV
  clear hV
  generalize form o = f at *
  rcases H.out with ⟨rfl, h⟩ | ⟨rfl, h, h'⟩ | ⟨rfl, h⟩ | ⟨rfl, h⟩ | ⟨rfl, h⟩ | ⟨rfl, h⟩
  · clear H
    unfold Is.isOp at h
    go_enter Tryd.func12, Tryd.ntmps12
    go_wp2_with fail
    rw [← HV.out]
    refine (hfo _).mono ?_
    rintro e w1 ⟨rfl, rfl⟩
    clear hfo k0 k1 k2 k3 k4 HV
    go_wp2_with fail
    all_goals
      go_ret2
      refine ⟨ret_two ?_ ?_, b0⟩ <;>
      · clear c0 c1 c2 c3 c4
        try simp only [bne_iff_ne, beq_iff_eq, ne_eq] at *
        unfold Is.enc Is.regs Is.right Is.hasA Is.hasB Is.hasC Is.isOp Is.inR Is.uns Is.front
        simp only [true_or, or_true, and_true, true_and, false_or, or_false, Nat.zero_le, not_true_eq_false, ↓reduceIte]
        (repeat' split) <;> first | omega | rfl
  · clear H
    have b1 : 1 ≤ (o : Int) := by omega
    have b2 : (o : Int) ≤ 13 := by omega
    by_cases hm : m = 0
    · subst hm
      go_enter Tryd.func12, Tryd.ntmps12
      go_wp2_with fail
      rw [← HV.out]
      refine (hfo _).mono ?_
      rintro e w1 ⟨rfl, rfl⟩
      clear hfo k0 k1 k2 k3 k4 HV
      go_wp2_with fail
      all_goals
        go_ret2
        refine ⟨ret_two ?_ ?_, b0⟩ <;>
        · clear c0 c1 c2 c3 c4
          try simp only [bne_iff_ne, beq_iff_eq, ne_eq] at *
          unfold Is.enc Is.regs Is.right Is.hasA Is.hasB Is.hasC Is.isOp Is.inR Is.uns Is.front
          simp only [true_or, or_true, and_true, true_and, false_or, or_false, Nat.zero_le, not_true_eq_false, ↓reduceIte]
          (repeat' split) <;> first | omega | rfl
    · have im : ((m : Int) == 0) = false := by rw [beq_eq_false_iff_ne]; omega
      have jm : ((m : Int) != 0) = true := by rw [bne, im]; rfl
      go_enter Tryd.func12, Tryd.ntmps12
      go_wp2_with fail
      rw [← HV.out]
      refine (hfo _).mono ?_
      rintro e w1 ⟨rfl, rfl⟩
      clear hfo k0 k1 k2 k3 k4 HV
      go_wp2_with fail
      all_goals
        go_ret2
        refine ⟨ret_two ?_ ?_, b0⟩ <;>
        · clear c0 c1 c2 c3 c4
          try simp only [bne_iff_ne, beq_iff_eq, ne_eq] at *
          unfold Is.enc Is.regs Is.right Is.hasA Is.hasB Is.hasC Is.isOp Is.inR Is.uns Is.front
          simp only [true_or, or_true, and_true, true_and, false_or, or_false, Nat.zero_le, not_true_eq_false, ↓reduceIte]
          (repeat' split) <;> first | omega | rfl
  · clear H
    have b1 : 14 ≤ (o : Int) := by omega
    have b2 : (o : Int) ≤ 31 := by omega
    by_cases hu : Is.uns o
    · have hu2 := decide_eq_true hu
      unfold Is.uns at hu
      by_cases hc : c = 0
      · subst hc
        go_enter Tryd.func12, Tryd.ntmps12
        go_wp2_with fail
        rw [← HV.out]
        refine (hfo _).mono ?_
        rintro e w1 ⟨rfl, rfl⟩
        clear hfo k0 k1 k2 k3 k4 HV
        go_wp2_with fail
        all_goals try (refine (plain_any _ _).mono ?_; rintro e w1 ⟨rfl, rfl⟩; rw [hu2]; go_wp2_with fail)
        all_goals
          go_ret2
          refine ⟨ret_two ?_ ?_, b0⟩ <;>
          · clear c0 c1 c2 c3 c4
            try simp only [bne_iff_ne, beq_iff_eq, ne_eq] at *
            unfold Is.enc Is.regs Is.right Is.hasA Is.hasB Is.hasC Is.isOp Is.inR Is.uns Is.front
            simp only [true_or, or_true, and_true, true_and, false_or, or_false, Nat.zero_le, not_true_eq_false, ↓reduceIte]
            (repeat' split) <;> first | omega | rfl
      · have ic : ((c : Int) == 0) = false := by rw [beq_eq_false_iff_ne]; omega
        have jc : ((c : Int) != 0) = true := by rw [bne, ic]; rfl
        go_enter Tryd.func12, Tryd.ntmps12
        go_wp2_with fail
        rw [← HV.out]
        refine (hfo _).mono ?_
        rintro e w1 ⟨rfl, rfl⟩
        clear hfo k0 k1 k2 k3 k4 HV
        go_wp2_with fail
        all_goals try (refine (plain_any _ _).mono ?_; rintro e w1 ⟨rfl, rfl⟩; rw [hu2]; go_wp2_with fail)
        all_goals
          go_ret2
          refine ⟨ret_two ?_ ?_, b0⟩ <;>
          · clear c0 c1 c2 c3 c4
            try simp only [bne_iff_ne, beq_iff_eq, ne_eq] at *
            unfold Is.enc Is.regs Is.right Is.hasA Is.hasB Is.hasC Is.isOp Is.inR Is.uns Is.front
            simp only [true_or, or_true, and_true, true_and, false_or, or_false, Nat.zero_le, not_true_eq_false, ↓reduceIte]
            (repeat' split) <;> first | omega | rfl
    · have hu2 := decide_eq_false hu
      unfold Is.uns at hu
      by_cases hc : c = 0
      · subst hc
        go_enter Tryd.func12, Tryd.ntmps12
        go_wp2_with fail
        rw [← HV.out]
        refine (hfo _).mono ?_
        rintro e w1 ⟨rfl, rfl⟩
        clear hfo k0 k1 k2 k3 k4 HV
        go_wp2_with fail
        all_goals try (refine (plain_any _ _).mono ?_; rintro e w1 ⟨rfl, rfl⟩; rw [hu2]; go_wp2_with fail)
        all_goals
          go_ret2
          refine ⟨ret_two ?_ ?_, b0⟩ <;>
          · clear c0 c1 c2 c3 c4
            try simp only [bne_iff_ne, beq_iff_eq, ne_eq] at *
            unfold Is.enc Is.regs Is.right Is.hasA Is.hasB Is.hasC Is.isOp Is.inR Is.uns Is.front
            simp only [true_or, or_true, and_true, true_and, false_or, or_false, Nat.zero_le, not_true_eq_false, ↓reduceIte]
            (repeat' split) <;> first | omega | rfl
      · have ic : ((c : Int) == 0) = false := by rw [beq_eq_false_iff_ne]; omega
        have jc : ((c : Int) != 0) = true := by rw [bne, ic]; rfl
        go_enter Tryd.func12, Tryd.ntmps12
        go_wp2_with fail
        rw [← HV.out]
        refine (hfo _).mono ?_
        rintro e w1 ⟨rfl, rfl⟩
        clear hfo k0 k1 k2 k3 k4 HV
        go_wp2_with fail
        all_goals try (refine (plain_any _ _).mono ?_; rintro e w1 ⟨rfl, rfl⟩; rw [hu2]; go_wp2_with fail)
        all_goals
          go_ret2
          refine ⟨ret_two ?_ ?_, b0⟩ <;>
          · clear c0 c1 c2 c3 c4
            try simp only [bne_iff_ne, beq_iff_eq, ne_eq] at *
            unfold Is.enc Is.regs Is.right Is.hasA Is.hasB Is.hasC Is.isOp Is.inR Is.uns Is.front
            simp only [true_or, or_true, and_true, true_and, false_or, or_false, Nat.zero_le, not_true_eq_false, ↓reduceIte]
            (repeat' split) <;> first | omega | rfl
  · clear H
    have b1 : 14 ≤ (o : Int) := by omega
    have b2 : (o : Int) ≤ 31 := by omega
    by_cases hu : Is.uns o
    · have hu2 := decide_eq_true hu
      unfold Is.uns at hu
      by_cases hc : c = 0
      · subst hc
        by_cases hb : b = 0
        · subst hb
          go_enter Tryd.func12, Tryd.ntmps12
          go_wp2_with fail
          rw [← HV.out]
          refine (hfo _).mono ?_
          rintro e w1 ⟨rfl, rfl⟩
          clear hfo k0 k1 k2 k3 k4 HV
          go_wp2_with fail
          all_goals try (refine (plain_any _ _).mono ?_; rintro e w1 ⟨rfl, rfl⟩; rw [hu2]; go_wp2_with fail)
          all_goals
            go_ret2
            refine ⟨ret_two ?_ ?_, b0⟩ <;>
            · clear c0 c1 c2 c3 c4
              try simp only [bne_iff_ne, beq_iff_eq, ne_eq] at *
              unfold Is.enc Is.regs Is.right Is.hasA Is.hasB Is.hasC Is.isOp Is.inR Is.uns Is.front
              simp only [true_or, or_true, and_true, true_and, false_or, or_false, Nat.zero_le, not_true_eq_false, ↓reduceIte]
              (repeat' split) <;> first | omega | rfl
        · have ib : ((b : Int) == 0) = false := by rw [beq_eq_false_iff_ne]; omega
          have jb : ((b : Int) != 0) = true := by rw [bne, ib]; rfl
          go_enter Tryd.func12, Tryd.ntmps12
          go_wp2_with fail
          rw [← HV.out]
          refine (hfo _).mono ?_
          rintro e w1 ⟨rfl, rfl⟩
          clear hfo k0 k1 k2 k3 k4 HV
          go_wp2_with fail
          all_goals try (refine (plain_any _ _).mono ?_; rintro e w1 ⟨rfl, rfl⟩; rw [hu2]; go_wp2_with fail)
          all_goals
            go_ret2
            refine ⟨ret_two ?_ ?_, b0⟩ <;>
            · clear c0 c1 c2 c3 c4
              try simp only [bne_iff_ne, beq_iff_eq, ne_eq] at *
              unfold Is.enc Is.regs Is.right Is.hasA Is.hasB Is.hasC Is.isOp Is.inR Is.uns Is.front
              simp only [true_or, or_true, and_true, true_and, false_or, or_false, Nat.zero_le, not_true_eq_false, ↓reduceIte]
              (repeat' split) <;> first | omega | rfl
      · have ic : ((c : Int) == 0) = false := by rw [beq_eq_false_iff_ne]; omega
        have jc : ((c : Int) != 0) = true := by rw [bne, ic]; rfl
        by_cases hb : b = 0
        · subst hb
          go_enter Tryd.func12, Tryd.ntmps12
          go_wp2_with fail
          rw [← HV.out]
          refine (hfo _).mono ?_
          rintro e w1 ⟨rfl, rfl⟩
          clear hfo k0 k1 k2 k3 k4 HV
          go_wp2_with fail
          all_goals try (refine (plain_any _ _).mono ?_; rintro e w1 ⟨rfl, rfl⟩; rw [hu2]; go_wp2_with fail)
          all_goals
            go_ret2
            refine ⟨ret_two ?_ ?_, b0⟩ <;>
            · clear c0 c1 c2 c3 c4
              try simp only [bne_iff_ne, beq_iff_eq, ne_eq] at *
              unfold Is.enc Is.regs Is.right Is.hasA Is.hasB Is.hasC Is.isOp Is.inR Is.uns Is.front
              simp only [true_or, or_true, and_true, true_and, false_or, or_false, Nat.zero_le, not_true_eq_false, ↓reduceIte]
              (repeat' split) <;> first | omega | rfl
        · have ib : ((b : Int) == 0) = false := by rw [beq_eq_false_iff_ne]; omega
          have jb : ((b : Int) != 0) = true := by rw [bne, ib]; rfl
          go_enter Tryd.func12, Tryd.ntmps12
          go_wp2_with fail
          rw [← HV.out]
          refine (hfo _).mono ?_
          rintro e w1 ⟨rfl, rfl⟩
          clear hfo k0 k1 k2 k3 k4 HV
          go_wp2_with fail
          all_goals try (refine (plain_any _ _).mono ?_; rintro e w1 ⟨rfl, rfl⟩; rw [hu2]; go_wp2_with fail)
          all_goals
            go_ret2
            refine ⟨ret_two ?_ ?_, b0⟩ <;>
            · clear c0 c1 c2 c3 c4
              try simp only [bne_iff_ne, beq_iff_eq, ne_eq] at *
              unfold Is.enc Is.regs Is.right Is.hasA Is.hasB Is.hasC Is.isOp Is.inR Is.uns Is.front
              simp only [true_or, or_true, and_true, true_and, false_or, or_false, Nat.zero_le, not_true_eq_false, ↓reduceIte]
              (repeat' split) <;> first | omega | rfl
    · have hu2 := decide_eq_false hu
      unfold Is.uns at hu
      by_cases hc : c = 0
      · subst hc
        by_cases hb : b = 0
        · subst hb
          go_enter Tryd.func12, Tryd.ntmps12
          go_wp2_with fail
          rw [← HV.out]
          refine (hfo _).mono ?_
          rintro e w1 ⟨rfl, rfl⟩
          clear hfo k0 k1 k2 k3 k4 HV
          go_wp2_with fail
          all_goals try (refine (plain_any _ _).mono ?_; rintro e w1 ⟨rfl, rfl⟩; rw [hu2]; go_wp2_with fail)
          all_goals
            go_ret2
            refine ⟨ret_two ?_ ?_, b0⟩ <;>
            · clear c0 c1 c2 c3 c4
              try simp only [bne_iff_ne, beq_iff_eq, ne_eq] at *
              unfold Is.enc Is.regs Is.right Is.hasA Is.hasB Is.hasC Is.isOp Is.inR Is.uns Is.front
              simp only [true_or, or_true, and_true, true_and, false_or, or_false, Nat.zero_le, not_true_eq_false, ↓reduceIte]
              (repeat' split) <;> first | omega | rfl
        · have ib : ((b : Int) == 0) = false := by rw [beq_eq_false_iff_ne]; omega
          have jb : ((b : Int) != 0) = true := by rw [bne, ib]; rfl
          go_enter Tryd.func12, Tryd.ntmps12
          go_wp2_with fail
          rw [← HV.out]
          refine (hfo _).mono ?_
          rintro e w1 ⟨rfl, rfl⟩
          clear hfo k0 k1 k2 k3 k4 HV
          go_wp2_with fail
          all_goals try (refine (plain_any _ _).mono ?_; rintro e w1 ⟨rfl, rfl⟩; rw [hu2]; go_wp2_with fail)
          all_goals
            go_ret2
            refine ⟨ret_two ?_ ?_, b0⟩ <;>
            · clear c0 c1 c2 c3 c4
              try simp only [bne_iff_ne, beq_iff_eq, ne_eq] at *
              unfold Is.enc Is.regs Is.right Is.hasA Is.hasB Is.hasC Is.isOp Is.inR Is.uns Is.front
              simp only [true_or, or_true, and_true, true_and, false_or, or_false, Nat.zero_le, not_true_eq_false, ↓reduceIte]
              (repeat' split) <;> first | omega | rfl
      · have ic : ((c : Int) == 0) = false := by rw [beq_eq_false_iff_ne]; omega
        have jc : ((c : Int) != 0) = true := by rw [bne, ic]; rfl
        by_cases hb : b = 0
        · subst hb
          go_enter Tryd.func12, Tryd.ntmps12
          go_wp2_with fail
          rw [← HV.out]
          refine (hfo _).mono ?_
          rintro e w1 ⟨rfl, rfl⟩
          clear hfo k0 k1 k2 k3 k4 HV
          go_wp2_with fail
          all_goals try (refine (plain_any _ _).mono ?_; rintro e w1 ⟨rfl, rfl⟩; rw [hu2]; go_wp2_with fail)
          all_goals
            go_ret2
            refine ⟨ret_two ?_ ?_, b0⟩ <;>
            · clear c0 c1 c2 c3 c4
              try simp only [bne_iff_ne, beq_iff_eq, ne_eq] at *
              unfold Is.enc Is.regs Is.right Is.hasA Is.hasB Is.hasC Is.isOp Is.inR Is.uns Is.front
              simp only [true_or, or_true, and_true, true_and, false_or, or_false, Nat.zero_le, not_true_eq_false, ↓reduceIte]
              (repeat' split) <;> first | omega | rfl
        · have ib : ((b : Int) == 0) = false := by rw [beq_eq_false_iff_ne]; omega
          have jb : ((b : Int) != 0) = true := by rw [bne, ib]; rfl
          go_enter Tryd.func12, Tryd.ntmps12
          go_wp2_with fail
          rw [← HV.out]
          refine (hfo _).mono ?_
          rintro e w1 ⟨rfl, rfl⟩
          clear hfo k0 k1 k2 k3 k4 HV
          go_wp2_with fail
          all_goals try (refine (plain_any _ _).mono ?_; rintro e w1 ⟨rfl, rfl⟩; rw [hu2]; go_wp2_with fail)
          all_goals
            go_ret2
            refine ⟨ret_two ?_ ?_, b0⟩ <;>
            · clear c0 c1 c2 c3 c4
              try simp only [bne_iff_ne, beq_iff_eq, ne_eq] at *
              unfold Is.enc Is.regs Is.right Is.hasA Is.hasB Is.hasC Is.isOp Is.inR Is.uns Is.front
              simp only [true_or, or_true, and_true, true_and, false_or, or_false, Nat.zero_le, not_true_eq_false, ↓reduceIte]
              (repeat' split) <;> first | omega | rfl
  · clear H
    have b1 : 14 ≤ (o : Int) := by omega
    have b2 : (o : Int) ≤ 31 := by omega
    by_cases hu : Is.uns o
    · have hu2 := decide_eq_true hu
      unfold Is.uns at hu
      exfalso; omega
    · have hu2 := decide_eq_false hu
      unfold Is.uns at hu
      by_cases hc : c = 0
      · subst hc
        go_enter Tryd.func12, Tryd.ntmps12
        go_wp2_with fail
        rw [← HV.out]
        refine (hfo _).mono ?_
        rintro e w1 ⟨rfl, rfl⟩
        clear hfo k0 k1 k2 k3 k4 HV
        go_wp2_with fail
        all_goals try (refine (plain_any _ _).mono ?_; rintro e w1 ⟨rfl, rfl⟩; rw [hu2]; go_wp2_with fail)
        all_goals
          go_ret2
          refine ⟨ret_two ?_ ?_, b0⟩ <;>
          · clear c0 c1 c2 c3 c4
            try simp only [bne_iff_ne, beq_iff_eq, ne_eq] at *
            unfold Is.enc Is.regs Is.right Is.hasA Is.hasB Is.hasC Is.isOp Is.inR Is.uns Is.front
            simp only [true_or, or_true, and_true, true_and, false_or, or_false, Nat.zero_le, not_true_eq_false, ↓reduceIte]
            (repeat' split) <;> first | omega | rfl
      · have ic : ((c : Int) == 0) = false := by rw [beq_eq_false_iff_ne]; omega
        have jc : ((c : Int) != 0) = true := by rw [bne, ic]; rfl
        go_enter Tryd.func12, Tryd.ntmps12
        go_wp2_with fail
        rw [← HV.out]
        refine (hfo _).mono ?_
        rintro e w1 ⟨rfl, rfl⟩
        clear hfo k0 k1 k2 k3 k4 HV
        go_wp2_with fail
        all_goals try (refine (plain_any _ _).mono ?_; rintro e w1 ⟨rfl, rfl⟩; rw [hu2]; go_wp2_with fail)
        all_goals
          go_ret2
          refine ⟨ret_two ?_ ?_, b0⟩ <;>
          · clear c0 c1 c2 c3 c4
            try simp only [bne_iff_ne, beq_iff_eq, ne_eq] at *
            unfold Is.enc Is.regs Is.right Is.hasA Is.hasB Is.hasC Is.isOp Is.inR Is.uns Is.front
            simp only [true_or, or_true, and_true, true_and, false_or, or_false, Nat.zero_le, not_true_eq_false, ↓reduceIte]
            (repeat' split) <;> first | omega | rfl
  · clear H
    have b1 : 14 ≤ (o : Int) := by omega
    have b2 : (o : Int) ≤ 31 := by omega
    replace h : 31 ≤ o := by omega
    by_cases hu : Is.uns o
    · have hu2 := decide_eq_true hu
      unfold Is.uns at hu
      by_cases hc : c = 0
      · subst hc
        by_cases hb : b = 0
        · subst hb
          by_cases ha : a = 0
          · subst ha
            go_enter Tryd.func12, Tryd.ntmps12
            go_wp2_with fail
            rw [← HV.out]
            refine (hfo _).mono ?_
            rintro e w1 ⟨rfl, rfl⟩
            clear hfo k0 k1 k2 k3 k4 HV
            go_wp2_with fail
            all_goals try (refine (plain_any _ _).mono ?_; rintro e w1 ⟨rfl, rfl⟩; rw [hu2]; go_wp2_with fail)
            all_goals
              go_ret2
              refine ⟨ret_two ?_ ?_, b0⟩ <;>
              · clear c0 c1 c2 c3 c4
                try simp only [bne_iff_ne, beq_iff_eq, ne_eq] at *
                unfold Is.enc Is.regs Is.right Is.hasA Is.hasB Is.hasC Is.isOp Is.inR Is.uns Is.front
                simp only [true_or, or_true, and_true, true_and, false_or, or_false, Nat.zero_le, not_true_eq_false, ↓reduceIte]
                (repeat' split) <;> first | omega | rfl
          · have ia : ((a : Int) == 0) = false := by rw [beq_eq_false_iff_ne]; omega
            have ja : ((a : Int) != 0) = true := by rw [bne, ia]; rfl
            go_enter Tryd.func12, Tryd.ntmps12
            go_wp2_with fail
            rw [← HV.out]
            refine (hfo _).mono ?_
            rintro e w1 ⟨rfl, rfl⟩
            clear hfo k0 k1 k2 k3 k4 HV
            go_wp2_with fail
            all_goals try (refine (plain_any _ _).mono ?_; rintro e w1 ⟨rfl, rfl⟩; rw [hu2]; go_wp2_with fail)
            all_goals
              go_ret2
              refine ⟨ret_two ?_ ?_, b0⟩ <;>
              · clear c0 c1 c2 c3 c4
                try simp only [bne_iff_ne, beq_iff_eq, ne_eq] at *
                unfold Is.enc Is.regs Is.right Is.hasA Is.hasB Is.hasC Is.isOp Is.inR Is.uns Is.front
                simp only [true_or, or_true, and_true, true_and, false_or, or_false, Nat.zero_le, not_true_eq_false, ↓reduceIte]
                (repeat' split) <;> first | omega | rfl
        · have ib : ((b : Int) == 0) = false := by rw [beq_eq_false_iff_ne]; omega
          have jb : ((b : Int) != 0) = true := by rw [bne, ib]; rfl
          by_cases ha : a = 0
          · subst ha
            go_enter Tryd.func12, Tryd.ntmps12
            go_wp2_with fail
            rw [← HV.out]
            refine (hfo _).mono ?_
            rintro e w1 ⟨rfl, rfl⟩
            clear hfo k0 k1 k2 k3 k4 HV
            go_wp2_with fail
            all_goals try (refine (plain_any _ _).mono ?_; rintro e w1 ⟨rfl, rfl⟩; rw [hu2]; go_wp2_with fail)
            all_goals
              go_ret2
              refine ⟨ret_two ?_ ?_, b0⟩ <;>
              · clear c0 c1 c2 c3 c4
                try simp only [bne_iff_ne, beq_iff_eq, ne_eq] at *
                unfold Is.enc Is.regs Is.right Is.hasA Is.hasB Is.hasC Is.isOp Is.inR Is.uns Is.front
                simp only [true_or, or_true, and_true, true_and, false_or, or_false, Nat.zero_le, not_true_eq_false, ↓reduceIte]
                (repeat' split) <;> first | omega | rfl
          · have ia : ((a : Int) == 0) = false := by rw [beq_eq_false_iff_ne]; omega
            have ja : ((a : Int) != 0) = true := by rw [bne, ia]; rfl
            go_enter Tryd.func12, Tryd.ntmps12
            go_wp2_with fail
            rw [← HV.out]
            refine (hfo _).mono ?_
            rintro e w1 ⟨rfl, rfl⟩
            clear hfo k0 k1 k2 k3 k4 HV
            go_wp2_with fail
            all_goals try (refine (plain_any _ _).mono ?_; rintro e w1 ⟨rfl, rfl⟩; rw [hu2]; go_wp2_with fail)
            all_goals
              go_ret2
              refine ⟨ret_two ?_ ?_, b0⟩ <;>
              · clear c0 c1 c2 c3 c4
                try simp only [bne_iff_ne, beq_iff_eq, ne_eq] at *
                unfold Is.enc Is.regs Is.right Is.hasA Is.hasB Is.hasC Is.isOp Is.inR Is.uns Is.front
                simp only [true_or, or_true, and_true, true_and, false_or, or_false, Nat.zero_le, not_true_eq_false, ↓reduceIte]
                (repeat' split) <;> first | omega | rfl
      · have ic : ((c : Int) == 0) = false := by rw [beq_eq_false_iff_ne]; omega
        have jc : ((c : Int) != 0) = true := by rw [bne, ic]; rfl
        by_cases hb : b = 0
        · subst hb
          by_cases ha : a = 0
          · subst ha
            go_enter Tryd.func12, Tryd.ntmps12
            go_wp2_with fail
            rw [← HV.out]
            refine (hfo _).mono ?_
            rintro e w1 ⟨rfl, rfl⟩
            clear hfo k0 k1 k2 k3 k4 HV
            go_wp2_with fail
            all_goals try (refine (plain_any _ _).mono ?_; rintro e w1 ⟨rfl, rfl⟩; rw [hu2]; go_wp2_with fail)
            all_goals
              go_ret2
              refine ⟨ret_two ?_ ?_, b0⟩ <;>
              · clear c0 c1 c2 c3 c4
                try simp only [bne_iff_ne, beq_iff_eq, ne_eq] at *
                unfold Is.enc Is.regs Is.right Is.hasA Is.hasB Is.hasC Is.isOp Is.inR Is.uns Is.front
                simp only [true_or, or_true, and_true, true_and, false_or, or_false, Nat.zero_le, not_true_eq_false, ↓reduceIte]
                (repeat' split) <;> first | omega | rfl
          · have ia : ((a : Int) == 0) = false := by rw [beq_eq_false_iff_ne]; omega
            have ja : ((a : Int) != 0) = true := by rw [bne, ia]; rfl
            go_enter Tryd.func12, Tryd.ntmps12
            go_wp2_with fail
            rw [← HV.out]
            refine (hfo _).mono ?_
            rintro e w1 ⟨rfl, rfl⟩
            clear hfo k0 k1 k2 k3 k4 HV
            go_wp2_with fail
            all_goals try (refine (plain_any _ _).mono ?_; rintro e w1 ⟨rfl, rfl⟩; rw [hu2]; go_wp2_with fail)
            all_goals
              go_ret2
              refine ⟨ret_two ?_ ?_, b0⟩ <;>
              · clear c0 c1 c2 c3 c4
                try simp only [bne_iff_ne, beq_iff_eq, ne_eq] at *
                unfold Is.enc Is.regs Is.right Is.hasA Is.hasB Is.hasC Is.isOp Is.inR Is.uns Is.front
                simp only [true_or, or_true, and_true, true_and, false_or, or_false, Nat.zero_le, not_true_eq_false, ↓reduceIte]
                (repeat' split) <;> first | omega | rfl
        · have ib : ((b : Int) == 0) = false := by rw [beq_eq_false_iff_ne]; omega
          have jb : ((b : Int) != 0) = true := by rw [bne, ib]; rfl
          by_cases ha : a = 0
          · subst ha
            go_enter Tryd.func12, Tryd.ntmps12
            go_wp2_with fail
            rw [← HV.out]
            refine (hfo _).mono ?_
            rintro e w1 ⟨rfl, rfl⟩
            clear hfo k0 k1 k2 k3 k4 HV
            go_wp2_with fail
            all_goals try (refine (plain_any _ _).mono ?_; rintro e w1 ⟨rfl, rfl⟩; rw [hu2]; go_wp2_with fail)
            all_goals
              go_ret2
              refine ⟨ret_two ?_ ?_, b0⟩ <;>
              · clear c0 c1 c2 c3 c4
                try simp only [bne_iff_ne, beq_iff_eq, ne_eq] at *
                unfold Is.enc Is.regs Is.right Is.hasA Is.hasB Is.hasC Is.isOp Is.inR Is.uns Is.front
                simp only [true_or, or_true, and_true, true_and, false_or, or_false, Nat.zero_le, not_true_eq_false, ↓reduceIte]
                (repeat' split) <;> first | omega | rfl
          · have ia : ((a : Int) == 0) = false := by rw [beq_eq_false_iff_ne]; omega
            have ja : ((a : Int) != 0) = true := by rw [bne, ia]; rfl
            go_enter Tryd.func12, Tryd.ntmps12
            go_wp2_with fail
            rw [← HV.out]
            refine (hfo _).mono ?_
            rintro e w1 ⟨rfl, rfl⟩
            clear hfo k0 k1 k2 k3 k4 HV
            go_wp2_with fail
            all_goals try (refine (plain_any _ _).mono ?_; rintro e w1 ⟨rfl, rfl⟩; rw [hu2]; go_wp2_with fail)
            all_goals
              go_ret2
              refine ⟨ret_two ?_ ?_, b0⟩ <;>
              · clear c0 c1 c2 c3 c4
                try simp only [bne_iff_ne, beq_iff_eq, ne_eq] at *
                unfold Is.enc Is.regs Is.right Is.hasA Is.hasB Is.hasC Is.isOp Is.inR Is.uns Is.front
                simp only [true_or, or_true, and_true, true_and, false_or, or_false, Nat.zero_le, not_true_eq_false, ↓reduceIte]
                (repeat' split) <;> first | omega | rfl
    · have hu2 := decide_eq_false hu
      unfold Is.uns at hu
      exfalso; omega
end Go.Proofs.YtmafeekhbcpomaaDoor
