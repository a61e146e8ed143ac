/-
  No cell of these rows narrows 'for every input' (looked for: loops, veiled, ifaces, maps, wideKeys, modest, calm, conditions, laid).
  DERIVED. THE GIVEN ROWS OF THIS SEAT. 7 by the template 'for every input the law returns true; each argument reads behind the call as it read before'; 0 by the template 'total and deterministic' (their statements: YtgjpopndjnbkaaaTotals.lean).
  GIVEN WITH THE SEED: the statements are not yours to turn. If you find one false, say at which input.
  Laid BY PROGRAM, IN A SANDBOX (cutbox-rows.mjs): the forced cells as the released guide's own fill.sh prints them over the translation 8122430ad76050c0… (all of the seat's roots in one cut). By AI agents, Wed Nov 11 2026. No macro, syntax, notation, axiom, sorry.
-/
import Derived.Test.YtgjpopndjnbkaaaChecked
import GoSem.Claim
import GoSem.ClaimJoined
import GoSem.ClaimMapViews
import Derived.JoinedTies
import Derived.KernelRfl
namespace Go.Proofs.Ytgjpopndjnbkaaa
/- THE CELL 'sum', in the pinned program and in every row, IS THE sha256 OF THE DUMP (.gsa) THAT YtgjpopndjnbkaaaProg.lean LOADS. Nothing in Lean hashes anything: it is a label: what it is worth is what the hold of that sum in a sandbox is worth. -/
noncomputable def Try.pinned : Pinned := { name := "ytgjpopndjnbkaaa", sum := "8122430ad76050c03629d462516de320465ae94a6dc8f04ff787e38db912add1", checked := Try.checked }
namespace Rows
def none {H : Type} : Left H := { results := [], args := [] }

/-- 'hibernaclelaw48.DayCounts': WHATEVER THE INPUT: true; the input reads as it did. -/
def dayCountsSpec : ChangeSpec := { name := "dayCounts", fn := fun _ => fun
  | [d] => { results := [.lit (.bool true)], args := [d] }
  | _ => none }
def dayCountsRow : OpenClaim := { program := "ytgjpopndjnbkaaa", sum := "8122430ad76050c03629d462516de320465ae94a6dc8f04ff787e38db912add1", func := "hibernacle/hibernaclelaw48.DayCounts", spec := "dayCounts", unfollowed := true, recurses := true, apart := false }
def DayCountsSaid : Prop := dayCountsRow.holds Try.pinned (OpenSpec.ofChange dayCountsSpec)

/-- ITS FALSE NEIGHBOUR: 'it returns false'. Refute it at one input. -/
def dayCountsWrong : ChangeSpec := { name := "dayCounts", fn := fun _ => fun
  | [d] => { results := [.lit (.bool false)], args := [d] }
  | _ => none }
def DayCountsWrongFalsely : Prop := dayCountsRow.holds Try.pinned (OpenSpec.ofChange dayCountsWrong)

/-- 'hibernaclelaw48.DayTexts': WHATEVER THE INPUT: true; the input reads as it did. -/
def dayTextsSpec : ChangeSpec := { name := "dayTexts", fn := fun _ => fun
  | [d] => { results := [.lit (.bool true)], args := [d] }
  | _ => none }
def dayTextsRow : OpenClaim := { program := "ytgjpopndjnbkaaa", sum := "8122430ad76050c03629d462516de320465ae94a6dc8f04ff787e38db912add1", func := "hibernacle/hibernaclelaw48.DayTexts", spec := "dayTexts", unfollowed := true, recurses := true, apart := false }
def DayTextsSaid : Prop := dayTextsRow.holds Try.pinned (OpenSpec.ofChange dayTextsSpec)

/-- ITS FALSE NEIGHBOUR: 'it returns false'. Refute it at one input. -/
def dayTextsWrong : ChangeSpec := { name := "dayTexts", fn := fun _ => fun
  | [d] => { results := [.lit (.bool false)], args := [d] }
  | _ => none }
def DayTextsWrongFalsely : Prop := dayTextsRow.holds Try.pinned (OpenSpec.ofChange dayTextsWrong)

/-- 'hibernaclelaw48.DayReads': WHATEVER THE INPUT: true; the input reads as it did. -/
def dayReadsSpec : ChangeSpec := { name := "dayReads", fn := fun _ => fun
  | [d] => { results := [.lit (.bool true)], args := [d] }
  | _ => none }
def dayReadsRow : OpenClaim := { program := "ytgjpopndjnbkaaa", sum := "8122430ad76050c03629d462516de320465ae94a6dc8f04ff787e38db912add1", func := "hibernacle/hibernaclelaw48.DayReads", spec := "dayReads", unfollowed := true, recurses := true, apart := false }
def DayReadsSaid : Prop := dayReadsRow.holds Try.pinned (OpenSpec.ofChange dayReadsSpec)

/-- ITS FALSE NEIGHBOUR: 'it returns false'. Refute it at one input. -/
def dayReadsWrong : ChangeSpec := { name := "dayReads", fn := fun _ => fun
  | [d] => { results := [.lit (.bool false)], args := [d] }
  | _ => none }
def DayReadsWrongFalsely : Prop := dayReadsRow.holds Try.pinned (OpenSpec.ofChange dayReadsWrong)

/-- 'hibernaclelaw48.DayRises': WHATEVER THE INPUT: true; the input reads as it did. -/
def dayRisesSpec : ChangeSpec := { name := "dayRises", fn := fun _ => fun
  | [d1, d2] => { results := [.lit (.bool true)], args := [d1, d2] }
  | _ => none }
def dayRisesRow : OpenClaim := { program := "ytgjpopndjnbkaaa", sum := "8122430ad76050c03629d462516de320465ae94a6dc8f04ff787e38db912add1", func := "hibernacle/hibernaclelaw48.DayRises", spec := "dayRises", unfollowed := true, recurses := true, apart := false }
def DayRisesSaid : Prop := dayRisesRow.holds Try.pinned (OpenSpec.ofChange dayRisesSpec)

/-- ITS FALSE NEIGHBOUR: 'it returns false'. Refute it at one input. -/
def dayRisesWrong : ChangeSpec := { name := "dayRises", fn := fun _ => fun
  | [d1, d2] => { results := [.lit (.bool false)], args := [d1, d2] }
  | _ => none }
def DayRisesWrongFalsely : Prop := dayRisesRow.holds Try.pinned (OpenSpec.ofChange dayRisesWrong)

/-- 'hibernaclelaw48.DayWeeks': WHATEVER THE INPUT: true; the input reads as it did. -/
def dayWeeksSpec : ChangeSpec := { name := "dayWeeks", fn := fun _ => fun
  | [d] => { results := [.lit (.bool true)], args := [d] }
  | _ => none }
def dayWeeksRow : OpenClaim := { program := "ytgjpopndjnbkaaa", sum := "8122430ad76050c03629d462516de320465ae94a6dc8f04ff787e38db912add1", func := "hibernacle/hibernaclelaw48.DayWeeks", spec := "dayWeeks", unfollowed := true, recurses := true, apart := false }
def DayWeeksSaid : Prop := dayWeeksRow.holds Try.pinned (OpenSpec.ofChange dayWeeksSpec)

/-- ITS FALSE NEIGHBOUR: 'it returns false'. Refute it at one input. -/
def dayWeeksWrong : ChangeSpec := { name := "dayWeeks", fn := fun _ => fun
  | [d] => { results := [.lit (.bool false)], args := [d] }
  | _ => none }
def DayWeeksWrongFalsely : Prop := dayWeeksRow.holds Try.pinned (OpenSpec.ofChange dayWeeksWrong)

/-- 'hibernaclelaw48.DayYears': WHATEVER THE INPUT: true; the input reads as it did. -/
def dayYearsSpec : ChangeSpec := { name := "dayYears", fn := fun _ => fun
  | [d] => { results := [.lit (.bool true)], args := [d] }
  | _ => none }
def dayYearsRow : OpenClaim := { program := "ytgjpopndjnbkaaa", sum := "8122430ad76050c03629d462516de320465ae94a6dc8f04ff787e38db912add1", func := "hibernacle/hibernaclelaw48.DayYears", spec := "dayYears", unfollowed := true, recurses := true, apart := false }
def DayYearsSaid : Prop := dayYearsRow.holds Try.pinned (OpenSpec.ofChange dayYearsSpec)

/-- ITS FALSE NEIGHBOUR: 'it returns false'. Refute it at one input. -/
def dayYearsWrong : ChangeSpec := { name := "dayYears", fn := fun _ => fun
  | [d] => { results := [.lit (.bool false)], args := [d] }
  | _ => none }
def DayYearsWrongFalsely : Prop := dayYearsRow.holds Try.pinned (OpenSpec.ofChange dayYearsWrong)

/-- 'hibernaclelaw48.DayFirsts': WHATEVER THE INPUT: true; the input reads as it did. -/
def dayFirstsSpec : ChangeSpec := { name := "dayFirsts", fn := fun _ => fun
  | [d] => { results := [.lit (.bool true)], args := [d] }
  | _ => none }
def dayFirstsRow : OpenClaim := { program := "ytgjpopndjnbkaaa", sum := "8122430ad76050c03629d462516de320465ae94a6dc8f04ff787e38db912add1", func := "hibernacle/hibernaclelaw48.DayFirsts", spec := "dayFirsts", unfollowed := true, recurses := true, apart := false }
def DayFirstsSaid : Prop := dayFirstsRow.holds Try.pinned (OpenSpec.ofChange dayFirstsSpec)

/-- ITS FALSE NEIGHBOUR: 'it returns false'. Refute it at one input. -/
def dayFirstsWrong : ChangeSpec := { name := "dayFirsts", fn := fun _ => fun
  | [d] => { results := [.lit (.bool false)], args := [d] }
  | _ => none }
def DayFirstsWrongFalsely : Prop := dayFirstsRow.holds Try.pinned (OpenSpec.ofChange dayFirstsWrong)

/- THE SECOND FORM. 'bulk': how many values and letters a reading holds, each counted each time it is reached (what is shared counts as often as it is met; a slice's spare places count too). A statement '..UptoSaid' is the law's where the arguments, and the package variables that the reading takes, are together of bulk at most 1048576: NARROWER than '..Said'. Prove '..Said' where nothing that the law and all that it calls make is longer than what came in: it says more and counts as full. Else prove '..UptoSaid'. A law counts once. -/
mutual
def uptoBulk {H : Type} : DataW H → Nat
  | .lit (.string bytes) => bytes.length + 1
  | .lit _ => 1
  | .nil => 1
  | .ptr d => uptoBulk d + 1
  | .slice elems spare => uptoBulkAll elems + uptoBulkAll spare + 1
  | .agg parts => uptoBulkAll parts + 1
  | .iface _ d => uptoBulk d + 1
  | .map entries => uptoBulkEntries entries + 1
  | .held _ => 1
def uptoBulkAll {H : Type} : List (DataW H) → Nat
  | [] => 0
  | d :: r => uptoBulk d + uptoBulkAll r
def uptoBulkEntries {H : Type} : List (Lit × DataW H) → Nat
  | [] => 0
  | x :: r => uptoBulkEntry x + uptoBulkEntries r
def uptoBulkEntry {H : Type} : Lit × DataW H → Nat
  | (.string bytes, d) => bytes.length + uptoBulk d + 1
  | (_, d) => uptoBulk d + 1
 end
def uptoSmall : (H : Type) → List (DataW H) → Bool := fun _ ds => decide (uptoBulkAll ds ≤ 1048576)
def OpenSpec.upto (s : _root_.Go.ChangeSpec) : _root_.Go.OpenSpec := { _root_.Go.OpenSpec.ofChange s with cond := some uptoSmall }

/-- 'hibernaclelaw48.DayCounts', WHERE WHAT IT READS IS OF BULK AT MOST 1048576: true; the input reads as it did. -/
def dayCountsUptoRow : OpenClaim := { program := "ytgjpopndjnbkaaa", sum := "8122430ad76050c03629d462516de320465ae94a6dc8f04ff787e38db912add1", func := "hibernacle/hibernaclelaw48.DayCounts", spec := "dayCounts", unfollowed := true, recurses := true, apart := false, narrowed := true }
def DayCountsUptoSaid : Prop := dayCountsUptoRow.holds Try.pinned (OpenSpec.upto dayCountsSpec)

/-- 'hibernaclelaw48.DayTexts', WHERE WHAT IT READS IS OF BULK AT MOST 1048576: true; the input reads as it did. -/
def dayTextsUptoRow : OpenClaim := { program := "ytgjpopndjnbkaaa", sum := "8122430ad76050c03629d462516de320465ae94a6dc8f04ff787e38db912add1", func := "hibernacle/hibernaclelaw48.DayTexts", spec := "dayTexts", unfollowed := true, recurses := true, apart := false, narrowed := true }
def DayTextsUptoSaid : Prop := dayTextsUptoRow.holds Try.pinned (OpenSpec.upto dayTextsSpec)

/-- 'hibernaclelaw48.DayReads', WHERE WHAT IT READS IS OF BULK AT MOST 1048576: true; the input reads as it did. -/
def dayReadsUptoRow : OpenClaim := { program := "ytgjpopndjnbkaaa", sum := "8122430ad76050c03629d462516de320465ae94a6dc8f04ff787e38db912add1", func := "hibernacle/hibernaclelaw48.DayReads", spec := "dayReads", unfollowed := true, recurses := true, apart := false, narrowed := true }
def DayReadsUptoSaid : Prop := dayReadsUptoRow.holds Try.pinned (OpenSpec.upto dayReadsSpec)

/-- 'hibernaclelaw48.DayRises', WHERE WHAT IT READS IS OF BULK AT MOST 1048576: true; the input reads as it did. -/
def dayRisesUptoRow : OpenClaim := { program := "ytgjpopndjnbkaaa", sum := "8122430ad76050c03629d462516de320465ae94a6dc8f04ff787e38db912add1", func := "hibernacle/hibernaclelaw48.DayRises", spec := "dayRises", unfollowed := true, recurses := true, apart := false, narrowed := true }
def DayRisesUptoSaid : Prop := dayRisesUptoRow.holds Try.pinned (OpenSpec.upto dayRisesSpec)

/-- 'hibernaclelaw48.DayWeeks', WHERE WHAT IT READS IS OF BULK AT MOST 1048576: true; the input reads as it did. -/
def dayWeeksUptoRow : OpenClaim := { program := "ytgjpopndjnbkaaa", sum := "8122430ad76050c03629d462516de320465ae94a6dc8f04ff787e38db912add1", func := "hibernacle/hibernaclelaw48.DayWeeks", spec := "dayWeeks", unfollowed := true, recurses := true, apart := false, narrowed := true }
def DayWeeksUptoSaid : Prop := dayWeeksUptoRow.holds Try.pinned (OpenSpec.upto dayWeeksSpec)

/-- 'hibernaclelaw48.DayYears', WHERE WHAT IT READS IS OF BULK AT MOST 1048576: true; the input reads as it did. -/
def dayYearsUptoRow : OpenClaim := { program := "ytgjpopndjnbkaaa", sum := "8122430ad76050c03629d462516de320465ae94a6dc8f04ff787e38db912add1", func := "hibernacle/hibernaclelaw48.DayYears", spec := "dayYears", unfollowed := true, recurses := true, apart := false, narrowed := true }
def DayYearsUptoSaid : Prop := dayYearsUptoRow.holds Try.pinned (OpenSpec.upto dayYearsSpec)

/-- 'hibernaclelaw48.DayFirsts', WHERE WHAT IT READS IS OF BULK AT MOST 1048576: true; the input reads as it did. -/
def dayFirstsUptoRow : OpenClaim := { program := "ytgjpopndjnbkaaa", sum := "8122430ad76050c03629d462516de320465ae94a6dc8f04ff787e38db912add1", func := "hibernacle/hibernaclelaw48.DayFirsts", spec := "dayFirsts", unfollowed := true, recurses := true, apart := false, narrowed := true }
def DayFirstsUptoSaid : Prop := dayFirstsUptoRow.holds Try.pinned (OpenSpec.upto dayFirstsSpec)

end Rows
end Go.Proofs.Ytgjpopndjnbkaaa
