/-
  No cell of these rows narrows 'for every input' (looked for: loops, veiled, ifaces, maps, wideKeys, modest, calm, conditions, laid).
  DERIVED. THE GIVEN ROWS OF THIS SEAT. 6 by the template 'for every input the law returns true; each argument reads behind the call as it read before'; 0 by the template 'total and deterministic' (their statements: YtingpadjciohjaaTotals.lean).
  GIVEN WITH THE SEED: the statements are not yours to turn. If you find one false, say at which input.
  Laid BY PROGRAM, IN A SANDBOX (cutbox-rows.mjs): the forced cells as the released guide's own fill.sh prints them over the translation 426e40974152ee29… (all of the seat's roots in one cut). By AI agents, Wed Nov 11 2026. No macro, syntax, notation, axiom, sorry.
-/
import Derived.Test.YtingpadjciohjaaChecked
import GoSem.Claim
import GoSem.ClaimJoined
import GoSem.ClaimMapViews
import Derived.JoinedTies
import Derived.KernelRfl
namespace Go.Proofs.Ytingpadjciohjaa
/- THE CELL 'sum', in the pinned program and in every row, IS THE sha256 OF THE DUMP (.gsa) THAT YtingpadjciohjaaProg.lean LOADS. Nothing in Lean hashes anything: it is a label: what it is worth is what the hold of that sum in a sandbox is worth. -/
noncomputable def Try.pinned : Pinned := { name := "ytingpadjciohjaa", sum := "426e40974152ee2990ef716771d03d1d38e047f3b2803ca6fa1c5e16ea06d16b", checked := Try.checked }
namespace Rows
def none {H : Type} : Left H := { results := [], args := [] }

/-- 'hibernaclelaw09.RollCuts': WHATEVER THE INPUT: true; the input reads as it did. -/
def rollCutsSpec : ChangeSpec := { name := "rollCuts", fn := fun _ => fun
  | [d1, d2, d3] => { results := [.lit (.bool true)], args := [d1, d2, d3] }
  | _ => none }
def rollCutsRow : OpenClaim := { program := "ytingpadjciohjaa", sum := "426e40974152ee2990ef716771d03d1d38e047f3b2803ca6fa1c5e16ea06d16b", func := "hibernacle/hibernaclelaw09.RollCuts", spec := "rollCuts", unfollowed := true, recurses := true, apart := false }
def RollCutsSaid : Prop := rollCutsRow.holds Try.pinned (OpenSpec.ofChange rollCutsSpec)

/-- ITS FALSE NEIGHBOUR: 'it returns false'. Refute it at one input. -/
def rollCutsWrong : ChangeSpec := { name := "rollCuts", fn := fun _ => fun
  | [d1, d2, d3] => { results := [.lit (.bool false)], args := [d1, d2, d3] }
  | _ => none }
def RollCutsWrongFalsely : Prop := rollCutsRow.holds Try.pinned (OpenSpec.ofChange rollCutsWrong)

/-- 'hibernaclelaw09.RollWhole': WHATEVER THE INPUT: true; the input reads as it did. -/
def rollWholeSpec : ChangeSpec := { name := "rollWhole", fn := fun _ => fun
  | [d1, d2] => { results := [.lit (.bool true)], args := [d1, d2] }
  | _ => none }
def rollWholeRow : OpenClaim := { program := "ytingpadjciohjaa", sum := "426e40974152ee2990ef716771d03d1d38e047f3b2803ca6fa1c5e16ea06d16b", func := "hibernacle/hibernaclelaw09.RollWhole", spec := "rollWhole", inPlace := ["internal/abi.NoEscape", "internal/bytealg.MakeNoZero"], unfollowed := true, recurses := true, apart := false }
def RollWholeSaid : Prop := rollWholeRow.holds Try.pinned (OpenSpec.ofChange rollWholeSpec)

/-- ITS FALSE NEIGHBOUR: 'it returns false'. Refute it at one input. -/
def rollWholeWrong : ChangeSpec := { name := "rollWhole", fn := fun _ => fun
  | [d1, d2] => { results := [.lit (.bool false)], args := [d1, d2] }
  | _ => none }
def RollWholeWrongFalsely : Prop := rollWholeRow.holds Try.pinned (OpenSpec.ofChange rollWholeWrong)

/-- 'hibernaclelaw09.RollBehind': WHATEVER THE INPUT: true; the input reads as it did. -/
def rollBehindSpec : ChangeSpec := { name := "rollBehind", fn := fun _ => fun
  | [d1, d2, d3] => { results := [.lit (.bool true)], args := [d1, d2, d3] }
  | _ => none }
def rollBehindRow : OpenClaim := { program := "ytingpadjciohjaa", sum := "426e40974152ee2990ef716771d03d1d38e047f3b2803ca6fa1c5e16ea06d16b", func := "hibernacle/hibernaclelaw09.RollBehind", spec := "rollBehind", inPlace := ["internal/abi.NoEscape", "internal/bytealg.MakeNoZero"], unfollowed := true, recurses := true, apart := false }
def RollBehindSaid : Prop := rollBehindRow.holds Try.pinned (OpenSpec.ofChange rollBehindSpec)

/-- ITS FALSE NEIGHBOUR: 'it returns false'. Refute it at one input. -/
def rollBehindWrong : ChangeSpec := { name := "rollBehind", fn := fun _ => fun
  | [d1, d2, d3] => { results := [.lit (.bool false)], args := [d1, d2, d3] }
  | _ => none }
def RollBehindWrongFalsely : Prop := rollBehindRow.holds Try.pinned (OpenSpec.ofChange rollBehindWrong)

/-- 'hibernaclelaw09.RollTails': WHATEVER THE INPUT: true; the input reads as it did. -/
def rollTailsSpec : ChangeSpec := { name := "rollTails", fn := fun _ => fun
  | [d1, d2, d3] => { results := [.lit (.bool true)], args := [d1, d2, d3] }
  | _ => none }
def rollTailsRow : OpenClaim := { program := "ytingpadjciohjaa", sum := "426e40974152ee2990ef716771d03d1d38e047f3b2803ca6fa1c5e16ea06d16b", func := "hibernacle/hibernaclelaw09.RollTails", spec := "rollTails", unfollowed := true, recurses := true, apart := false }
def RollTailsSaid : Prop := rollTailsRow.holds Try.pinned (OpenSpec.ofChange rollTailsSpec)

/-- ITS FALSE NEIGHBOUR: 'it returns false'. Refute it at one input. -/
def rollTailsWrong : ChangeSpec := { name := "rollTails", fn := fun _ => fun
  | [d1, d2, d3] => { results := [.lit (.bool false)], args := [d1, d2, d3] }
  | _ => none }
def RollTailsWrongFalsely : Prop := rollTailsRow.holds Try.pinned (OpenSpec.ofChange rollTailsWrong)

/-- 'hibernaclelaw09.RollGoes': WHATEVER THE INPUT: true; the input reads as it did. -/
def rollGoesSpec : ChangeSpec := { name := "rollGoes", fn := fun _ => fun
  | [d1, d2] => { results := [.lit (.bool true)], args := [d1, d2] }
  | _ => none }
def rollGoesRow : OpenClaim := { program := "ytingpadjciohjaa", sum := "426e40974152ee2990ef716771d03d1d38e047f3b2803ca6fa1c5e16ea06d16b", func := "hibernacle/hibernaclelaw09.RollGoes", spec := "rollGoes", unfollowed := true, recurses := true, apart := false }
def RollGoesSaid : Prop := rollGoesRow.holds Try.pinned (OpenSpec.ofChange rollGoesSpec)

/-- ITS FALSE NEIGHBOUR: 'it returns false'. Refute it at one input. -/
def rollGoesWrong : ChangeSpec := { name := "rollGoes", fn := fun _ => fun
  | [d1, d2] => { results := [.lit (.bool false)], args := [d1, d2] }
  | _ => none }
def RollGoesWrongFalsely : Prop := rollGoesRow.holds Try.pinned (OpenSpec.ofChange rollGoesWrong)

/-- 'hibernaclelaw09.RollFixed': WHATEVER THE INPUT: true; the input reads as it did. -/
def rollFixedSpec : ChangeSpec := { name := "rollFixed", fn := fun _ => fun
  | [d1, d2] => { results := [.lit (.bool true)], args := [d1, d2] }
  | _ => none }
def rollFixedRow : OpenClaim := { program := "ytingpadjciohjaa", sum := "426e40974152ee2990ef716771d03d1d38e047f3b2803ca6fa1c5e16ea06d16b", func := "hibernacle/hibernaclelaw09.RollFixed", spec := "rollFixed", unfollowed := true, recurses := true, apart := false }
def RollFixedSaid : Prop := rollFixedRow.holds Try.pinned (OpenSpec.ofChange rollFixedSpec)

/-- ITS FALSE NEIGHBOUR: 'it returns false'. Refute it at one input. -/
def rollFixedWrong : ChangeSpec := { name := "rollFixed", fn := fun _ => fun
  | [d1, d2] => { results := [.lit (.bool false)], args := [d1, d2] }
  | _ => none }
def RollFixedWrongFalsely : Prop := rollFixedRow.holds Try.pinned (OpenSpec.ofChange rollFixedWrong)

/- THE SECOND FORM. 'bulk': how many values and letters a reading holds, each counted each time it is reached (what is shared counts as often as it is met; a slice's spare places count too). A statement '..UptoSaid' is the law's where the arguments, and the package variables that the reading takes, are together of bulk at most 1048576: NARROWER than '..Said'. Prove '..Said' where nothing that the law and all that it calls make is longer than what came in: it says more and counts as full. Else prove '..UptoSaid'. A law counts once. -/
mutual
def uptoBulk {H : Type} : DataW H → Nat
  | .lit (.string bytes) => bytes.length + 1
  | .lit _ => 1
  | .nil => 1
  | .ptr d => uptoBulk d + 1
  | .slice elems spare => uptoBulkAll elems + uptoBulkAll spare + 1
  | .agg parts => uptoBulkAll parts + 1
  | .iface _ d => uptoBulk d + 1
  | .map entries => uptoBulkEntries entries + 1
  | .held _ => 1
def uptoBulkAll {H : Type} : List (DataW H) → Nat
  | [] => 0
  | d :: r => uptoBulk d + uptoBulkAll r
def uptoBulkEntries {H : Type} : List (Lit × DataW H) → Nat
  | [] => 0
  | x :: r => uptoBulkEntry x + uptoBulkEntries r
def uptoBulkEntry {H : Type} : Lit × DataW H → Nat
  | (.string bytes, d) => bytes.length + uptoBulk d + 1
  | (_, d) => uptoBulk d + 1
 end
def uptoSmall : (H : Type) → List (DataW H) → Bool := fun _ ds => decide (uptoBulkAll ds ≤ 1048576)
def OpenSpec.upto (s : _root_.Go.ChangeSpec) : _root_.Go.OpenSpec := { _root_.Go.OpenSpec.ofChange s with cond := some uptoSmall }

/-- 'hibernaclelaw09.RollCuts', WHERE WHAT IT READS IS OF BULK AT MOST 1048576: true; the input reads as it did. -/
def rollCutsUptoRow : OpenClaim := { program := "ytingpadjciohjaa", sum := "426e40974152ee2990ef716771d03d1d38e047f3b2803ca6fa1c5e16ea06d16b", func := "hibernacle/hibernaclelaw09.RollCuts", spec := "rollCuts", unfollowed := true, recurses := true, apart := false, narrowed := true }
def RollCutsUptoSaid : Prop := rollCutsUptoRow.holds Try.pinned (OpenSpec.upto rollCutsSpec)

/-- 'hibernaclelaw09.RollWhole', WHERE WHAT IT READS IS OF BULK AT MOST 1048576: true; the input reads as it did. -/
def rollWholeUptoRow : OpenClaim := { program := "ytingpadjciohjaa", sum := "426e40974152ee2990ef716771d03d1d38e047f3b2803ca6fa1c5e16ea06d16b", func := "hibernacle/hibernaclelaw09.RollWhole", spec := "rollWhole", inPlace := ["internal/abi.NoEscape", "internal/bytealg.MakeNoZero"], unfollowed := true, recurses := true, apart := false, narrowed := true }
def RollWholeUptoSaid : Prop := rollWholeUptoRow.holds Try.pinned (OpenSpec.upto rollWholeSpec)

/-- 'hibernaclelaw09.RollBehind', WHERE WHAT IT READS IS OF BULK AT MOST 1048576: true; the input reads as it did. -/
def rollBehindUptoRow : OpenClaim := { program := "ytingpadjciohjaa", sum := "426e40974152ee2990ef716771d03d1d38e047f3b2803ca6fa1c5e16ea06d16b", func := "hibernacle/hibernaclelaw09.RollBehind", spec := "rollBehind", inPlace := ["internal/abi.NoEscape", "internal/bytealg.MakeNoZero"], unfollowed := true, recurses := true, apart := false, narrowed := true }
def RollBehindUptoSaid : Prop := rollBehindUptoRow.holds Try.pinned (OpenSpec.upto rollBehindSpec)

/-- 'hibernaclelaw09.RollTails', WHERE WHAT IT READS IS OF BULK AT MOST 1048576: true; the input reads as it did. -/
def rollTailsUptoRow : OpenClaim := { program := "ytingpadjciohjaa", sum := "426e40974152ee2990ef716771d03d1d38e047f3b2803ca6fa1c5e16ea06d16b", func := "hibernacle/hibernaclelaw09.RollTails", spec := "rollTails", unfollowed := true, recurses := true, apart := false, narrowed := true }
def RollTailsUptoSaid : Prop := rollTailsUptoRow.holds Try.pinned (OpenSpec.upto rollTailsSpec)

/-- 'hibernaclelaw09.RollGoes', WHERE WHAT IT READS IS OF BULK AT MOST 1048576: true; the input reads as it did. -/
def rollGoesUptoRow : OpenClaim := { program := "ytingpadjciohjaa", sum := "426e40974152ee2990ef716771d03d1d38e047f3b2803ca6fa1c5e16ea06d16b", func := "hibernacle/hibernaclelaw09.RollGoes", spec := "rollGoes", unfollowed := true, recurses := true, apart := false, narrowed := true }
def RollGoesUptoSaid : Prop := rollGoesUptoRow.holds Try.pinned (OpenSpec.upto rollGoesSpec)

/-- 'hibernaclelaw09.RollFixed', WHERE WHAT IT READS IS OF BULK AT MOST 1048576: true; the input reads as it did. -/
def rollFixedUptoRow : OpenClaim := { program := "ytingpadjciohjaa", sum := "426e40974152ee2990ef716771d03d1d38e047f3b2803ca6fa1c5e16ea06d16b", func := "hibernacle/hibernaclelaw09.RollFixed", spec := "rollFixed", unfollowed := true, recurses := true, apart := false, narrowed := true }
def RollFixedUptoSaid : Prop := rollFixedUptoRow.holds Try.pinned (OpenSpec.upto rollFixedSpec)

end Rows
end Go.Proofs.Ytingpadjciohjaa
