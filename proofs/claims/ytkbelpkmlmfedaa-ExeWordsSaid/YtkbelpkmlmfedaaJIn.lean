/-
  THE WALK of the code's Enc.
-/
import Derived.Test.YtkbelpkmlmfedaaJIe
import Derived.RegionTactic
import Derived.BigRegion
namespace Go.Proofs.Ytkbelpkmlmfedaa.Is2
open Go.RowKit
set_option linter.unusedVariables false
/-- an instruction's cells -/
def ic (x : Is.Ins) : Array Value := #[.int .u8 (x.op : Nat), .int .u8 (x.a : Nat), .int .u8 (x.b : Nat), .int .u8 (x.c : Nat), .int .i32 x.imm]
structure At (W : World) (g : Nat) (x : Is.Ins) : Prop where
  c0 : W.cell? ⟨g, 0, none⟩ = some (.int .u8 (x.op : Nat))
  c1 : W.cell? ⟨g, 1, none⟩ = some (.int .u8 (x.a : Nat))
  c2 : W.cell? ⟨g, 2, none⟩ = some (.int .u8 (x.b : Nat))
  c3 : W.cell? ⟨g, 3, none⟩ = some (.int .u8 (x.c : Nat))
  c4 : W.cell? ⟨g, 4, none⟩ = some (.int .i32 x.imm)
theorem at_new (w : World) (x : Is.Ins) (t : TypeId) : At (w.alloc (Obj.cells (ic x) t)) w.heap.size x := by
  have h : (w.alloc (Obj.cells (ic x) t)).heap[w.heap.size]? = some (.cells (ic x) t (0, 0)) := by
    show (w.heap.push _)[w.heap.size]? = _
    simp
  generalize w.alloc (Obj.cells (ic x) t) = V at *
  generalize w.heap.size = g at *
  constructor <;> (unfold World.cell?; rw [h]; rfl)
theorem grow (wr : World) (o : Obj) : Below wr.heap.size wr (wr.alloc o) := (Below.refl _ _).alloc (Nat.le_refl _) _
theorem below_drewN {B : Nat} {a w : World} (h : Below B a w) (n : Nat) : Below B a (w.drewN n) := h.trans ⟨rfl, rfl, rfl, Nat.le_refl _, fun _ _ => rfl⟩
theorem u16_wrap (n : Int) : IntKind.u16.wrap n = n % 65536 := by simp [IntKind.wrap, IntKind.signed, IntKind.bits]
theorem regs_le {x : Is.Ins} (h : Is.regs x) : x.a ≤ 15 ∧ x.b ≤ 15 ∧ x.c ≤ 15 ∧ (¬ Is.hasC x.op → x.c = 0) := by
  obtain ⟨h1, h2, h3⟩ := h
  refine ⟨by rcases h1 with h | h <;> omega, by rcases h2 with h | h <;> omega, by rcases h3 with h | h <;> omega, fun hc => ?_⟩
  rcases h3 with h | h
  · exact h
  · exact absurd h.1 hc
theorem front_lt {x : Is.Ins} (ho : Is.isOp x.op) (hr : Is.regs x) : Is.front x < 4294967296 := by
  obtain ⟨a, b, c, _⟩ := regs_le hr
  have := ho.2
  unfold Is.front; omega
theorem or_word {x : Is.Ins} (hx : x.Ok) (ho : Is.isOp x.op) (hr : Is.regs x) : bits .or .u32 (bits .or .u32 (bits .or .u32 ((x.op : Int) * 67108864 % 4294967296) ((x.a : Int) * 4194304)) ((x.b : Int) * 262144)) ((x.c : Int) * 16384) = ((Is.front x : Nat) : Int) := by
  obtain ⟨a, b, c, _⟩ := regs_le hr
  have o := ho.2
  have e0 : (x.op : Int) * 67108864 % 4294967296 = ((x.op * 67108864 : Nat) : Int) := by omega
  have e1 : (x.a : Int) * 4194304 = ((x.a * 4194304 : Nat) : Int) := by omega
  have e2 : (x.b : Int) * 262144 = ((x.b * 262144 : Nat) : Int) := by omega
  have e3 : (x.c : Int) * 16384 = ((x.c * 16384 : Nat) : Int) := by omega
  have l0 : x.op * 67108864 ||| x.a * 4194304 < 2 ^ 32 := Nat.or_lt_two_pow (by omega) (by omega)
  have l1 : (x.op * 67108864 ||| x.a * 4194304) ||| x.b * 262144 < 2 ^ 32 := Nat.or_lt_two_pow l0 (by omega)
  rw [e0, e1, e2, e3, u32_or_nat _ _ (by omega) (by omega), u32_or_nat _ _ l0 (by omega), u32_or_nat _ _ l1 (by omega), Is.or_front _ _ _ _ a b c]
  rfl
theorem or_imm {x : Is.Ins} (ho : Is.isOp x.op) (hr : Is.regs x) (hc : ¬ Is.hasC x.op) : bits .or .u32 ((Is.front x : Nat) : Int) (IntKind.u16.wrap x.imm % 4294967296) = ((Is.front x + (x.imm % 65536).toNat : Nat) : Int) := by
  rw [u16_wrap, show x.imm % 65536 % 4294967296 = x.imm % 65536 from by omega]
  have l := front_lt ho hr
  obtain ⟨a, b, c, h⟩ := regs_le hr
  have e : x.imm % 65536 = (((x.imm % 65536).toNat : Nat) : Int) := by omega
  have m : (x.imm % 65536).toNat < 65536 := by omega
  generalize (x.imm % 65536).toNat = k at *
  rw [e, u32_or_nat _ _ l (by omega)]
  have c0 := h hc
  unfold Is.front
  rw [c0, Nat.zero_mul, Nat.add_zero, Is.or_imm _ _ _ _ m]
set_option maxRecDepth 100000 in
set_option maxHeartbeats 4000000 in
theorem enc_any (x : Is.Ins) (hx : x.Ok) (w : World) :
    Calls Try.prog 27 #[.agg (ic x)] w fun e w' => e = .returned (.tuple #[.int .u32 ((Is.enc x).1 : Nat), .int .i64 ((Is.enc x).2 : Nat)]) ∧ Below w.heap.size w w' := by
  obtain ⟨V, hV⟩ : ∃ V, V = w.alloc (Obj.cells (ic x) 49) := ⟨_, rfl⟩
  have b0 : Below w.heap.size w V := by rw [hV]; exact grow _ _
  have hA := at_new w x 49
  obtain ⟨k0, k1, k2, k3, k4⟩ := hA
  have hA := at_new w x 49
  rw [← hV] at hA
  obtain ⟨c0, c1, c2, c3, c4⟩ := hA
  have HV := Lib.hid hV
  clear hV
  have hx0 := hx
  obtain ⟨h1, h2, h3, h4, h5, h6⟩ := hx
  unfold Is.enc
  by_cases ho : Is.isOp x.op
  · rw [if_neg (show ¬ ¬ Is.isOp x.op from fun h => h ho)]
    have ho2 := decide_eq_true ho
    by_cases hr : Is.regs x
    · rw [if_neg (show ¬ ¬ Is.regs x from fun h => h hr)]
      have r1 := decide_eq_true hr.1
      have r2 := decide_eq_true hr.2.1
      have r3 := decide_eq_true hr.2.2
      have HR := Lib.hid (And.intro ho hr)
      have eW := or_word hx0 ho hr
      have fl := front_lt ho hr
      by_cases hC : Is.hasC x.op
      · have m2 := decide_eq_false (p := Is.hasImm x.op) (by unfold Is.hasImm; unfold Is.hasC at hC; omega)
        rw [if_pos hC]
        by_cases hi : x.imm = 0
        · have i1 : (x.imm == 0) = true := by rw [beq_iff_eq]; exact hi
          have i2 : (x.imm != 0) = false := by rw [bne, i1]; rfl
          rw [if_neg (show ¬ x.imm ≠ 0 from fun h => h hi)]
          clear ho hr hi hC
          go_enter Try.func27, Try.ntmps27
          go_wp2_with fail
          rw [← HV.out]
          refine (isOp_any _ _).mono ?_
          rintro e w1 ⟨rfl, rfl⟩
          rw [ho2]
          clear k0 k1 k2 k3 k4
          go_wp2_with fail
          go_quiet ((first | (go_at_call 55; exact quietA (isOp_any _ _)) | (go_at_call 57; exact quietA (hasA_any _ _)) | (go_at_call 58; exact quietA (hasB_any _ _)) | (go_at_call 59; exact quietA (hasC_any _ _)) | (go_at_call 56; exact quietA (right_any _ _ _))))
          go_wp2_with fail
          refine (hasImm_any _ _).mono ?_
          rintro e w2 ⟨rfl, rfl⟩
          rw [m2]
          go_wp2_with fail
          go_ret2
          exact ⟨rfl, below_drewN b0 _⟩
        · have i1 : (x.imm == 0) = false := by rw [beq_eq_false_iff_ne]; exact hi
          have i2 : (x.imm != 0) = true := by rw [bne, i1]; rfl
          rw [if_pos hi]
          clear ho hr hi hC
          go_enter Try.func27, Try.ntmps27
          go_wp2_with fail
          rw [← HV.out]
          refine (isOp_any _ _).mono ?_
          rintro e w1 ⟨rfl, rfl⟩
          rw [ho2]
          clear k0 k1 k2 k3 k4
          go_wp2_with fail
          go_quiet ((first | (go_at_call 55; exact quietA (isOp_any _ _)) | (go_at_call 57; exact quietA (hasA_any _ _)) | (go_at_call 58; exact quietA (hasB_any _ _)) | (go_at_call 59; exact quietA (hasC_any _ _)) | (go_at_call 56; exact quietA (right_any _ _ _))))
          go_wp2_with fail
          refine (hasImm_any _ _).mono ?_
          rintro e w2 ⟨rfl, rfl⟩
          rw [m2]
          go_wp2_with fail
          go_ret2
          exact ⟨rfl, below_drewN b0 _⟩
      · have m2 := decide_eq_true (p := Is.hasImm x.op) (by unfold Is.hasImm; unfold Is.hasC at hC; omega)
        rw [if_neg hC]
        have eI := or_imm ho hr hC
        obtain ⟨T, hT⟩ : ∃ T, T = Is.front x + (x.imm % 65536).toNat := ⟨_, rfl⟩
        rw [← hT] at eI ⊢
        clear hT
        by_cases hi : Is.inR x.op x.imm
        · have i1 := decide_eq_true hi
          rw [if_neg (show ¬ ¬ Is.inR x.op x.imm from fun h => h hi)]
          clear ho hr hi hC
          go_enter Try.func27, Try.ntmps27
          go_wp2_with fail
          rw [← HV.out]
          refine (isOp_any _ _).mono ?_
          rintro e w1 ⟨rfl, rfl⟩
          rw [ho2]
          clear k0 k1 k2 k3 k4
          go_wp2_with fail
          go_quiet ((first | (go_at_call 55; exact quietA (isOp_any _ _)) | (go_at_call 57; exact quietA (hasA_any _ _)) | (go_at_call 58; exact quietA (hasB_any _ _)) | (go_at_call 59; exact quietA (hasC_any _ _)) | (go_at_call 56; exact quietA (right_any _ _ _))))
          go_wp2_with fail
          refine (hasImm_any _ _).mono ?_
          rintro e w2 ⟨rfl, rfl⟩
          rw [m2]
          go_wp2_with fail
          refine (inR_any _ _ _).mono ?_
          rintro e w3 ⟨rfl, rfl⟩
          rw [i1]
          go_wp2_with fail
          go_ret2
          exact ⟨rfl, below_drewN b0 _⟩
        · have i1 := decide_eq_false hi
          rw [if_pos hi]
          clear ho hr hi hC
          go_enter Try.func27, Try.ntmps27
          go_wp2_with fail
          rw [← HV.out]
          refine (isOp_any _ _).mono ?_
          rintro e w1 ⟨rfl, rfl⟩
          rw [ho2]
          clear k0 k1 k2 k3 k4
          go_wp2_with fail
          go_quiet ((first | (go_at_call 55; exact quietA (isOp_any _ _)) | (go_at_call 57; exact quietA (hasA_any _ _)) | (go_at_call 58; exact quietA (hasB_any _ _)) | (go_at_call 59; exact quietA (hasC_any _ _)) | (go_at_call 56; exact quietA (right_any _ _ _))))
          go_wp2_with fail
          refine (hasImm_any _ _).mono ?_
          rintro e w2 ⟨rfl, rfl⟩
          rw [m2]
          go_wp2_with fail
          refine (inR_any _ _ _).mono ?_
          rintro e w3 ⟨rfl, rfl⟩
          rw [i1]
          go_wp2_with fail
          go_ret2
          exact ⟨rfl, below_drewN b0 _⟩
    · rw [if_pos hr]
      have HR := Lib.hid hr
      by_cases q1 : Is.right (Is.hasA x.op) x.a
      · have r1 := decide_eq_true q1
        by_cases q2 : Is.right (Is.hasB x.op) x.b
        · have r2 := decide_eq_true q2
          have r3 : decide (Is.right (Is.hasC x.op) x.c) = false := decide_eq_false fun h => hr ⟨q1, q2, h⟩
          clear q1 q2 hr
          go_enter Try.func27, Try.ntmps27
          go_wp2_with fail
          rw [← HV.out]
          refine (isOp_any _ _).mono ?_
          rintro e w1 ⟨rfl, rfl⟩
          rw [ho2]
          clear k0 k1 k2 k3 k4
          go_wp2_with fail
          go_quiet ((first | (go_at_call 55; exact quietA (isOp_any _ _)) | (go_at_call 57; exact quietA (hasA_any _ _)) | (go_at_call 58; exact quietA (hasB_any _ _)) | (go_at_call 59; exact quietA (hasC_any _ _)) | (go_at_call 56; exact quietA (right_any _ _ _))))
          go_wp2_with fail
          go_ret2
          exact ⟨rfl, below_drewN b0 _⟩
        · have r2 := decide_eq_false q2
          clear q1 q2 hr
          go_enter Try.func27, Try.ntmps27
          go_wp2_with fail
          rw [← HV.out]
          refine (isOp_any _ _).mono ?_
          rintro e w1 ⟨rfl, rfl⟩
          rw [ho2]
          clear k0 k1 k2 k3 k4
          go_wp2_with fail
          go_quiet ((first | (go_at_call 55; exact quietA (isOp_any _ _)) | (go_at_call 57; exact quietA (hasA_any _ _)) | (go_at_call 58; exact quietA (hasB_any _ _)) | (go_at_call 59; exact quietA (hasC_any _ _)) | (go_at_call 56; exact quietA (right_any _ _ _))))
          go_wp2_with fail
          go_ret2
          exact ⟨rfl, below_drewN b0 _⟩
      · have r1 := decide_eq_false q1
        clear q1 hr
        go_enter Try.func27, Try.ntmps27
        go_wp2_with fail
        rw [← HV.out]
        refine (isOp_any _ _).mono ?_
        rintro e w1 ⟨rfl, rfl⟩
        rw [ho2]
        clear k0 k1 k2 k3 k4
        go_wp2_with fail
        go_quiet ((first | (go_at_call 55; exact quietA (isOp_any _ _)) | (go_at_call 57; exact quietA (hasA_any _ _)) | (go_at_call 58; exact quietA (hasB_any _ _)) | (go_at_call 59; exact quietA (hasC_any _ _)) | (go_at_call 56; exact quietA (right_any _ _ _))))
        go_wp2_with fail
        go_ret2
        exact ⟨rfl, below_drewN b0 _⟩
  · rw [if_pos ho]
    have ho2 := decide_eq_false ho
    clear ho
    go_enter Try.func27, Try.ntmps27
    go_wp2_with fail
    rw [← HV.out]
    refine (isOp_any _ _).mono ?_
    rintro e w1 ⟨rfl, rfl⟩
    rw [ho2]
    clear k0 k1 k2 k3 k4
    go_wp2_with fail
    go_ret2
    exact ⟨rfl, b0⟩
end Go.Proofs.Ytkbelpkmlmfedaa.Is2
