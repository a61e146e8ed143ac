/-
  THE WALK of a word of four bytes of a text, of the document's answer; bytes as a text.
-/
import Derived.Test.YtaoaebdjinlcnaaDoorCDh
import Derived.RegionTactic
import Derived.Deep.RegionWith
import Derived.Deep.OwnRows
import Derived.Deep.AppendLies
import Derived.Maps.AppendAt
set_option linter.unusedVariables false
set_option linter.unusedSimpArgs false
set_option maxRecDepth 100000
namespace Go.Proofs.YtaoaebdjinlcnaaDoor.Ci
open Go.RowKit
/-- bytes as a text -/
def bs (L : List Nat) : ByteArray := ⟨(L.map UInt8.ofNat).toArray⟩
theorem bs_size (L : List Nat) : (bs L).size = L.length := by simp [bs, ByteArray.size]
theorem bs_get {L : List Nat} (hL : Ch.By L) {i : Nat} (h : i < L.length) : ((bs L)[i]'(by rw [bs_size]; exact h)).toNat = Ch.nth L i := by
  have e : (bs L)[i]'(by rw [bs_size]; exact h) = UInt8.ofNat L[i] := by
    show (bs L).data[i]'_ = _
    simp [bs]
  rw [e, Ch.nth_lt h, UInt8.toNat_ofNat']
  exact Nat.mod_eq_of_lt (hL _ (List.getElem_mem h))
theorem bs_conv (W : World) (g : Nat) (t : TypeId) (L : List Nat) (n : Nat) (hn : L.length = n) (h : Own W g t (vs .u8 L)) : (convert 45 9 (.slice (some ⟨g, 0, none⟩) n n)).run Tryd.prog W = .ok (.string (bs L)) W := by
  subst hn
  have e := run_convert_bytes_arg W 45 5 Tryd.underlying45 Tryd.underlying5 g 0 L.length L.length (L.map fun (x : Nat) => (x : Int)) (by simp) (fun i hi => by
    rw [Nat.zero_add, h.cell hi, Ch.nth_lt hi]
    simp [List.getD_eq_getElem?_getD, hi]) 9 Tryd.underlying9
  rw [e]
  unfold strOfNums bs
  simp [List.map_map, Function.comp_def]
theorem u64w {x : Int} (h0 : 0 ≤ x) (h1 : x < 18446744073709551616) : IntKind.u64.wrap x = x := by
  show x % 18446744073709551616 = x
  omega
set_option maxRecDepth 100000 in
set_option maxHeartbeats 1000000 in
theorem rword_s (s : ByteArray) (i q1 q2 q3 : Nat) (h1 : q1 = i + 1) (h2 : q2 = i + 2) (h3 : q3 = i + 3) (l0 : i < s.size) (l1 : q1 < s.size) (l2 : q2 < s.size) (l3 : q3 < s.size) (hl : s.size ≤ 1000) (w : World) :
    Calls Tryd.prog 78 #[.string s, .int .i64 i] w fun e w' => e = .returned (.int .u64 (s[i].toNat + 256 * s[q1].toNat + 65536 * s[q2].toNat + 16777216 * s[q3].toNat : Nat)) ∧ ∃ m, w' = w.drewN m := by
  have b0 : s[i].toNat < 256 := UInt8.toNat_lt _
  have b1 : s[q1].toNat < 256 := UInt8.toNat_lt _
  have b2 : s[q2].toNat < 256 := UInt8.toNat_lt _
  have b3 : s[q3].toNat < 256 := UInt8.toNat_lt _
  have i0 : (i : Int) < (s.size : Int) := by omega
  have i1 : (q1 : Int) < (s.size : Int) := by omega
  have i2 : (q2 : Int) < (s.size : Int) := by omega
  have i3 : (q3 : Int) < (s.size : Int) := by omega
  have w0 : IntKind.u64.wrap (s[i].toNat : Int) = (s[i].toNat : Int) := u64w (by omega) (by omega)
  have w1 : IntKind.u64.wrap (s[q1].toNat : Int) = (s[q1].toNat : Int) := u64w (by omega) (by omega)
  have w2 : IntKind.u64.wrap (s[q2].toNat : Int) = (s[q2].toNat : Int) := u64w (by omega) (by omega)
  have w3 : IntKind.u64.wrap (s[q3].toNat : Int) = (s[q3].toNat : Int) := u64w (by omega) (by omega)
  have j1 : IntKind.i64.wrap ((i : Int) + 1) = (q1 : Int) := by rw [IntWalk.i64_in _ (by omega)]; omega
  have j2 : IntKind.i64.wrap ((i : Int) + 2) = (q2 : Int) := by rw [IntWalk.i64_in _ (by omega)]; omega
  have j3 : IntKind.i64.wrap ((i : Int) + 3) = (q3 : Int) := by rw [IntWalk.i64_in _ (by omega)]; omega
  have p1 : IntKind.u64.wrap (256 * (s[q1].toNat : Int)) = 256 * (s[q1].toNat : Int) := u64w (by omega) (by omega)
  have p2 : IntKind.u64.wrap (65536 * (s[q2].toNat : Int)) = 65536 * (s[q2].toNat : Int) := u64w (by omega) (by omega)
  have p3 : IntKind.u64.wrap (16777216 * (s[q3].toNat : Int)) = 16777216 * (s[q3].toNat : Int) := u64w (by omega) (by omega)
  have sm1 : IntKind.u64.wrap ((s[i].toNat : Int) + 256 * (s[q1].toNat : Int)) = (s[i].toNat : Int) + 256 * (s[q1].toNat : Int) := u64w (by omega) (by omega)
  have sm2 : IntKind.u64.wrap ((s[i].toNat : Int) + 256 * (s[q1].toNat : Int) + 65536 * (s[q2].toNat : Int)) = (s[i].toNat : Int) + 256 * (s[q1].toNat : Int) + 65536 * (s[q2].toNat : Int) := u64w (by omega) (by omega)
  have sm3 : IntKind.u64.wrap ((s[i].toNat : Int) + 256 * (s[q1].toNat : Int) + 65536 * (s[q2].toNat : Int) + 16777216 * (s[q3].toNat : Int)) = (s[i].toNat : Int) + 256 * (s[q1].toNat : Int) + 65536 * (s[q2].toNat : Int) + 16777216 * (s[q3].toNat : Int) := u64w (by omega) (by omega)
  clear b0 b1 b2 b3 h1 h2 h3
  go_enter Tryd.func78, Tryd.ntmps78
  go_wp2
  go_quiet (fail)
  go_wp2
  go_ret
  exact ⟨rfl, _, rfl⟩
theorem rword_any (K : List Nat) (hK : Ch.By K) (i : Nat) (hi : i + 3 < K.length) (hl : K.length ≤ 1000) (w : World) :
    Calls Tryd.prog 78 #[.string (bs K), .int .i64 i] w fun e w' => e = .returned (.int .u64 (Ch.word K i : Nat)) ∧ ∃ m, w' = w.drewN m := by
  have hs := bs_size K
  have h := rword_s (bs K) i (i + 1) (i + 2) (i + 3) rfl rfl rfl (by omega) (by omega) (by omega) (by omega) (by omega) w
  rw [bs_get hK (by omega), bs_get hK (by omega), bs_get hK (by omega), bs_get hK (by omega)] at h
  exact h
end Go.Proofs.YtaoaebdjinlcnaaDoor.Ci
