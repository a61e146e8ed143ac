/-
  What the laws' walks share: boxes of drives beside each other; what fixed and Great say.
-/
import Derived.Test.YtmolbliooaofbaaOk
namespace Go.Proofs.Ytmolbliooaofbaa
set_option linter.unusedVariables false
set_option maxRecDepth 100000
set_option linter.unusedSimpArgs false
open Go.RowKit
namespace Dw
open _root_.Go.Proofs.Ytmolbliooaofbaa.Nm
open Dm (Wr wnth)
theorem Dy.below {a b : World} {A : Option Addr} {n c : Nat} {A' : Option Addr} {m c' : Nat} {d : Dm.Dr} (h : Dy a A n c A' m c' d) (k : Below a.heap.size a b) : Dy b A n c A' m c' d :=
  ⟨h.b.below k, h.z, h.n, h.p, (fun h0 => by
    obtain ⟨g, off, e, hc⟩ := h.q h0
    exact ⟨g, off, e, hc.below k⟩), h.y, h.m, h.l⟩
theorem Dz.len {w : World} {A : Option Addr} {n c : Nat} {A' : Option Addr} {m c' : Nat} {d : Dm.Dr} (h : Dz w A n c A' m c' d) : d.B.length = n ∧ d.P.length = m := ⟨h.b.t.1, h.p.len⟩
/-- two drives that read alike, at any address -/
theorem same_two {w : World} {A : Option Addr} {n c : Nat} {A' : Option Addr} {m c' : Nat} {E : Option Addr} {k e : Nat} {E' : Option Addr} {q e' : Nat} {d : Dm.Dr} (h : Dz w A n c A' m c' d) (h' : Dz w E k e E' q e' d) :
    Calls Try.prog 15 #[.agg (dv A n c A' m c' d.left), .agg (dv E k e E' q e' d.left)] w fun e w' => e = .returned (.bool true) ∧ Below w.heap.size w w' := by
  obtain rfl : n = k := h.len.1.symm.trans h'.len.1
  obtain rfl : m = q := h.len.2.symm.trans h'.len.2
  exact same_any A n c A' m c' E e E' e' d w h h'
theorem dz_drewN {a : World} {A : Option Addr} {n c : Nat} {A' : Option Addr} {m c' : Nat} {d : Dm.Dr} (h : Dz a A n c A' m c' d) (k : Nat) : Dz (a.drewN k) A n c A' m c' d := ⟨h.b.dr ⟨k, rfl⟩, h.p.drewN k, h.l⟩
theorem dz_drew {a : World} {A : Option Addr} {n c : Nat} {A' : Option Addr} {m c' : Nat} {d : Dm.Dr} (h : Dz a A n c A' m c' d) : Dz a.drew A n c A' m c' d := dz_drewN h 1
/-- the law's own drive, and the worlds behind it -/
structure Lz (w : World) (A : Option Addr) (n c : Nat) (A' : Option Addr) (m c' : Nat) (d : Dm.Dr) (L : Int) (wr : World) : Prop where
  o : Nm.Own wr w.heap.size 25 (dv A n c A' m c' L)
  z : Dz wr A n c A' m c' d
  b : Below w.heap.size w wr
theorem Lz.below {w wr w1 : World} {A : Option Addr} {n c : Nat} {A' : Option Addr} {m c' : Nat} {d : Dm.Dr} {L : Int} (h : Lz w A n c A' m c' d L wr) (k : Below wr.heap.size wr w1) : Lz w A n c A' m c' d L w1 := ⟨h.o.below k, h.z.below k, h.b.trans (k.mono h.b.size)⟩
theorem Lz.alloc {w wr : World} {A : Option Addr} {n c : Nat} {A' : Option Addr} {m c' : Nat} {d : Dm.Dr} {L : Int} (h : Lz w A n c A' m c' d L wr) (o : Obj) : Lz w A n c A' m c' d L (wr.alloc o) := h.below (grow wr o)
theorem Lz.drewN {w wr : World} {A : Option Addr} {n c : Nat} {A' : Option Addr} {m c' : Nat} {d : Dm.Dr} {L : Int} (h : Lz w A n c A' m c' d L wr) (k : Nat) : Lz w A n c A' m c' d L (wr.drewN k) := ⟨h.o, dz_drewN h.z k, below_dr h.b ⟨k, rfl⟩⟩
theorem Lz.drew {w wr : World} {A : Option Addr} {n c : Nat} {A' : Option Addr} {m c' : Nat} {d : Dm.Dr} {L : Int} (h : Lz w A n c A' m c' d L wr) : Lz w A n c A' m c' d L wr.drew := h.drewN 1
/-- an answer, its numbers spelt out -/
theorem AnsIs.lit {x : Dm.Dr × Int} {e : Ending} {w : World} {L k : Int} (h : AnsIs x e w) (hl : x.1.left = L) (hk : x.2 = k) :
    ∃ A n c A' m c', e = .returned (.tuple #[.agg (dv A n c A' m c' L), .int .i64 k]) ∧ Dz w A n c A' m c' x.1 := by
  obtain ⟨A, n, c, A', m, c', rfl, h⟩ := h
  exact ⟨A, n, c, A', m, c', by rw [hl, hk], h⟩
theorem same_lit {w : World} {A : Option Addr} {n c : Nat} {A' : Option Addr} {m c' : Nat} {E : Option Addr} {k e : Nat} {E' : Option Addr} {q e' : Nat} {d : Dm.Dr} {L : Int} (h : Dz w A n c A' m c' d) (h' : Dz w E k e E' q e' d) (hl : d.left = L) :
    Calls Try.prog 15 #[.agg (dv A n c A' m c' L), .agg (dv E k e E' q e' L)] w fun e w' => e = .returned (.bool true) ∧ Below w.heap.size w w' := by
  subst hl; exact same_two h h'
theorem check_lit {w : World} {A : Option Addr} {n c : Nat} {A' : Option Addr} {m c' : Nat} {d : Dm.Dr} {L : Int} (h : Dz w A n c A' m c' d) (hl : d.left = L) :
    Calls Try.prog 13 #[.agg (dv A n c A' m c' L)] w fun e w' => e = .returned (.int .i64 (Dm.chkM d)) ∧ Below w.heap.size w w' := by
  subst hl; exact check_any A n c A' m c' d w h
theorem get_lit {w : World} {A : Option Addr} {n c : Nat} {A' : Option Addr} {m c' : Nat} {d : Dm.Dr} {L : Int} (h : Dz w A n c A' m c' d) (hl : d.left = L) (i : Int) :
    Calls Try.prog 22 #[.agg (dv A n c A' m c' L), .int .i64 i] w fun e w' => GetIs d i e ∧ Below w.heap.size w w' := by
  subst hl; exact get_any A n c A' m c' d i w h
theorem rget_lit {w : World} {A : Option Addr} {n c : Nat} {A' : Option Addr} {m c' : Nat} {d : Dm.Dr} {L : Int} (h : Dz w A n c A' m c' d) (hl : d.left = L) (i : Int) :
    Calls Try.prog 23 #[.agg (dv A n c A' m c' L), .int .i64 i] w fun e w' => GetIs d i e ∧ Below w.heap.size w w' := by
  subst hl; exact rget_any A n c A' m c' d i w h
theorem flush_lit {w : World} {A : Option Addr} {n c : Nat} {A' : Option Addr} {m c' : Nat} {d : Dm.Dr} {L : Int} (h : Dz w A n c A' m c' d) (hl : d.left = L) (hi : In d) :
    Calls Try.prog 18 #[.agg (dv A n c A' m c' L)] w fun e w' => AnsIs (Dm.flushA d) e w' ∧ Below w.heap.size w w' := by
  subst hl; exact flush_any A n c A' m c' d w h hi
theorem rflush_lit {w : World} {A : Option Addr} {n c : Nat} {A' : Option Addr} {m c' : Nat} {d : Dm.Dr} {L : Int} (h : Dz w A n c A' m c' d) (hl : d.left = L) (hi : In d) :
    Calls Try.prog 19 #[.agg (dv A n c A' m c' L)] w fun e w' => AnsIs (Dm.flushA d) e w' ∧ Below w.heap.size w w' := by
  subst hl; exact rflush_any A n c A' m c' d w h hi
theorem put_lit {w : World} {A : Option Addr} {n c : Nat} {A' : Option Addr} {m c' : Nat} {d : Dm.Dr} {L : Int} (h : Dz w A n c A' m c' d) (hl : d.left = L) (hm : d.P.length ≤ 90000) (i : Int) (t : ByteArray) :
    Calls Try.prog 16 #[.agg (dv A n c A' m c' L), .int .i64 i, .string t] w fun e w' => AnsIs (Dm.putM d i t) e w' ∧ Below w.heap.size w w' := by
  subst hl; exact put_any A n c A' m c' d i t w h (by rw [← h.len.2]; exact hm)
theorem rput_lit {w : World} {A : Option Addr} {n c : Nat} {A' : Option Addr} {m c' : Nat} {d : Dm.Dr} {L : Int} (h : Dz w A n c A' m c' d) (hl : d.left = L) (hm : d.P.length ≤ 90000) (i : Int) (t : ByteArray) :
    Calls Try.prog 17 #[.agg (dv A n c A' m c' L), .int .i64 i, .string t] w fun e w' => AnsIs (Dm.putM d i t) e w' ∧ Below w.heap.size w w' := by
  subst hl; exact rput_any A n c A' m c' d i t w h (by rw [← h.len.2]; exact hm)
/-- what a crash answers -/
def CrashIs (d : Dm.Dr) (K : List Int) (e : Ending) (w' : World) : Prop := ∃ A n c, e = .returned (.agg (dv A n c none 0 0 (-1))) ∧ Dz w' A n c none 0 0 (Dm.crashed d K)
theorem CrashIs.of {w w' : World} {B : Nat} {A : Option Addr} {n c : Nat} {d : Dm.Dr} {K : List Int} (hr : RS w' B A n c (Dm.crashM d.B K 0 d.P)) (hn : n ≤ 100000) : CrashIs d K (.returned (.agg (dv A n c none 0 0 (-1)))) w' :=
  ⟨A, n, c, rfl, ⟨Tz.of hr hn, Pz.nil _, by show (-9223372036854775808 : Int) ≤ -1; decide, by show (-1 : Int) ≤ 9223372036854775807; decide⟩⟩
theorem crash_lit {w : World} {A : Option Addr} {n c : Nat} {A' : Option Addr} {m c' : Nat} {d : Dm.Dr} {L : Int} {E : Option Addr} {k ec : Nat} {K : List Int} (h : Dz w A n c A' m c' d) (hl : d.left = L) (hI : Iz w E k K) (hok : Dm.Ok d) :
    Calls Try.prog 20 #[.agg (dv A n c A' m c' L), .slice E k ec] w fun e w' => CrashIs d K e w' ∧ Below w.heap.size w w' := by
  subst hl
  refine (crash_any A n c A' m c' d E k ec K w h hI hok).mono ?_
  rintro e w' ⟨⟨A1, c1, rfl, hr⟩, hb⟩
  exact ⟨CrashIs.of (w := w) hr h.b.m, hb⟩
theorem rcrash_lit {w : World} {A : Option Addr} {n c : Nat} {A' : Option Addr} {m c' : Nat} {d : Dm.Dr} {L : Int} {E : Option Addr} {k ec : Nat} {K : List Int} (h : Dz w A n c A' m c' d) (hl : d.left = L) (hI : Iz w E k K) (hok : Dm.Ok d) :
    Calls Try.prog 21 #[.agg (dv A n c A' m c' L), .slice E k ec] w fun e w' => CrashIs d K e w' ∧ Below w.heap.size w w' := by
  subst hl
  refine (rcrash_any A n c A' m c' d E k ec K w h hI hok).mono ?_
  rintro e w' ⟨⟨A1, c1, rfl, hr⟩, hb⟩
  exact ⟨CrashIs.of (w := w) hr h.b.m, hb⟩
/-- another drive in a box of its own -/
structure Mz (G : Nat) (A : Option Addr) (n c : Nat) (A' : Option Addr) (m c' : Nat) (d : Dm.Dr) (L : Int) (wr : World) : Prop where
  o : Nm.Own wr G 25 (dv A n c A' m c' L)
  z : Dz wr A n c A' m c' d
theorem Mz.below {G : Nat} {wr w1 : World} {A : Option Addr} {n c : Nat} {A' : Option Addr} {m c' : Nat} {d : Dm.Dr} {L : Int} (h : Mz G A n c A' m c' d L wr) (k : Below wr.heap.size wr w1) : Mz G A n c A' m c' d L w1 := ⟨h.o.below k, h.z.below k⟩
theorem Mz.alloc {G : Nat} {wr : World} {A : Option Addr} {n c : Nat} {A' : Option Addr} {m c' : Nat} {d : Dm.Dr} {L : Int} (h : Mz G A n c A' m c' d L wr) (o : Obj) : Mz G A n c A' m c' d L (wr.alloc o) := h.below (grow wr o)
theorem Mz.new {wr : World} {A : Option Addr} {n c : Nat} {A' : Option Addr} {m c' : Nat} {d : Dm.Dr} (h : Dz wr A n c A' m c' d) (L : Int) : Mz wr.heap.size A n c A' m c' d L (wr.alloc (Obj.cells (dv A n c A' m c' L) 25)) := ⟨Nm.Own.new wr 25 _, h.below (grow wr _)⟩
theorem Mz.drew {G : Nat} {wr : World} {A : Option Addr} {n c : Nat} {A' : Option Addr} {m c' : Nat} {d : Dm.Dr} {L : Int} (h : Mz G A n c A' m c' d L wr) : Mz G A n c A' m c' d L wr.drew := ⟨h.o, dz_drew h.z⟩
theorem Mz.drewN {G : Nat} {wr : World} {A : Option Addr} {n c : Nat} {A' : Option Addr} {m c' : Nat} {d : Dm.Dr} {L : Int} (h : Mz G A n c A' m c' d L wr) (k : Nat) : Mz G A n c A' m c' d L (wr.drewN k) := ⟨h.o, dz_drewN h.z k⟩
theorem crash_nil (B : List ByteArray) (K : List Int) (l : Int) : Dm.crashed ⟨B, [], l⟩ K = ⟨B, [], -1⟩ := rfl
end Dw
end Go.Proofs.Ytmolbliooaofbaa
