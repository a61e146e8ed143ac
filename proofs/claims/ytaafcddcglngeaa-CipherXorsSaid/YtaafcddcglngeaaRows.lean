/-
  No cell of these rows narrows 'for every input' (looked for: loops, veiled, ifaces, maps, wideKeys, modest, calm, conditions, laid).
  DERIVED. THE GIVEN ROWS OF THIS SEAT. 6 by the template 'for every input the law returns true; each argument reads behind the call as it read before'; 0 by the template 'total and deterministic' (their statements: YtaafcddcglngeaaTotals.lean).
  GIVEN WITH THE SEED: the statements are not yours to turn. If you find one false, say at which input.
  Laid BY PROGRAM, IN A SANDBOX (cutbox-rows.mjs): the forced cells as the released guide's own fill.sh prints them over the translation 34cf077941759acf… (all of the seat's roots in one cut). By AI agents, Wed Nov 11 2026. No macro, syntax, notation, axiom, sorry.
-/
import Derived.Test.YtaafcddcglngeaaChecked
import GoSem.Claim
import GoSem.ClaimJoined
import GoSem.ClaimMapViews
import Derived.JoinedTies
import Derived.KernelRfl
namespace Go.Proofs.Ytaafcddcglngeaa
/- THE CELL 'sum', in the pinned program and in every row, IS THE sha256 OF THE DUMP (.gsa) THAT YtaafcddcglngeaaProg.lean LOADS. Nothing in Lean hashes anything: it is a label: what it is worth is what the hold of that sum in a sandbox is worth. -/
noncomputable def Try.pinned : Pinned := { name := "ytaafcddcglngeaa", sum := "34cf077941759acf35d74a830086406e8aabf826eb4493952a182fe6b1d15314", checked := Try.checked }
namespace Rows
def none {H : Type} : Left H := { results := [], args := [] }

/-- 'hibernaclelaw03.CipherBlocks': WHATEVER THE INPUT: true; the input reads as it did. -/
def cipherBlocksSpec : ChangeSpec := { name := "cipherBlocks", fn := fun _ => fun
  | [d1, d2, d3] => { results := [.lit (.bool true)], args := [d1, d2, d3] }
  | _ => none }
def cipherBlocksRow : OpenClaim := { program := "ytaafcddcglngeaa", sum := "34cf077941759acf35d74a830086406e8aabf826eb4493952a182fe6b1d15314", func := "hibernacle/hibernaclelaw03.CipherBlocks", spec := "cipherBlocks", unfollowed := true, recurses := true, apart := false }
def CipherBlocksSaid : Prop := cipherBlocksRow.holds Try.pinned (OpenSpec.ofChange cipherBlocksSpec)

/-- ITS FALSE NEIGHBOUR: 'it returns false'. Refute it at one input. -/
def cipherBlocksWrong : ChangeSpec := { name := "cipherBlocks", fn := fun _ => fun
  | [d1, d2, d3] => { results := [.lit (.bool false)], args := [d1, d2, d3] }
  | _ => none }
def CipherBlocksWrongFalsely : Prop := cipherBlocksRow.holds Try.pinned (OpenSpec.ofChange cipherBlocksWrong)

/-- 'hibernaclelaw03.CipherXors': WHATEVER THE INPUT: true; the input reads as it did. -/
def cipherXorsSpec : ChangeSpec := { name := "cipherXors", fn := fun _ => fun
  | [d1, d2] => { results := [.lit (.bool true)], args := [d1, d2] }
  | _ => none }
def cipherXorsRow : OpenClaim := { program := "ytaafcddcglngeaa", sum := "34cf077941759acf35d74a830086406e8aabf826eb4493952a182fe6b1d15314", func := "hibernacle/hibernaclelaw03.CipherXors", spec := "cipherXors", unfollowed := true, recurses := true, apart := false }
def CipherXorsSaid : Prop := cipherXorsRow.holds Try.pinned (OpenSpec.ofChange cipherXorsSpec)

/-- ITS FALSE NEIGHBOUR: 'it returns false'. Refute it at one input. -/
def cipherXorsWrong : ChangeSpec := { name := "cipherXors", fn := fun _ => fun
  | [d1, d2] => { results := [.lit (.bool false)], args := [d1, d2] }
  | _ => none }
def CipherXorsWrongFalsely : Prop := cipherXorsRow.holds Try.pinned (OpenSpec.ofChange cipherXorsWrong)

/-- 'hibernaclelaw03.CipherBack': WHATEVER THE INPUT: true; the input reads as it did. -/
def cipherBackSpec : ChangeSpec := { name := "cipherBack", fn := fun _ => fun
  | [d1, d2] => { results := [.lit (.bool true)], args := [d1, d2] }
  | _ => none }
def cipherBackRow : OpenClaim := { program := "ytaafcddcglngeaa", sum := "34cf077941759acf35d74a830086406e8aabf826eb4493952a182fe6b1d15314", func := "hibernacle/hibernaclelaw03.CipherBack", spec := "cipherBack", unfollowed := true, recurses := true, apart := false }
def CipherBackSaid : Prop := cipherBackRow.holds Try.pinned (OpenSpec.ofChange cipherBackSpec)

/-- ITS FALSE NEIGHBOUR: 'it returns false'. Refute it at one input. -/
def cipherBackWrong : ChangeSpec := { name := "cipherBack", fn := fun _ => fun
  | [d1, d2] => { results := [.lit (.bool false)], args := [d1, d2] }
  | _ => none }
def CipherBackWrongFalsely : Prop := cipherBackRow.holds Try.pinned (OpenSpec.ofChange cipherBackWrong)

/-- 'hibernaclelaw03.CipherParts': WHATEVER THE INPUT: true; the input reads as it did. -/
def cipherPartsSpec : ChangeSpec := { name := "cipherParts", fn := fun _ => fun
  | [d1, d2, d3] => { results := [.lit (.bool true)], args := [d1, d2, d3] }
  | _ => none }
def cipherPartsRow : OpenClaim := { program := "ytaafcddcglngeaa", sum := "34cf077941759acf35d74a830086406e8aabf826eb4493952a182fe6b1d15314", func := "hibernacle/hibernaclelaw03.CipherParts", spec := "cipherParts", unfollowed := true, recurses := true, apart := false }
def CipherPartsSaid : Prop := cipherPartsRow.holds Try.pinned (OpenSpec.ofChange cipherPartsSpec)

/-- ITS FALSE NEIGHBOUR: 'it returns false'. Refute it at one input. -/
def cipherPartsWrong : ChangeSpec := { name := "cipherParts", fn := fun _ => fun
  | [d1, d2, d3] => { results := [.lit (.bool false)], args := [d1, d2, d3] }
  | _ => none }
def CipherPartsWrongFalsely : Prop := cipherPartsRow.holds Try.pinned (OpenSpec.ofChange cipherPartsWrong)

/-- 'hibernaclelaw03.CipherAlike': WHATEVER THE INPUT: true; the input reads as it did. -/
def cipherAlikeSpec : ChangeSpec := { name := "cipherAlike", fn := fun _ => fun
  | [d1, d2, d3] => { results := [.lit (.bool true)], args := [d1, d2, d3] }
  | _ => none }
def cipherAlikeRow : OpenClaim := { program := "ytaafcddcglngeaa", sum := "34cf077941759acf35d74a830086406e8aabf826eb4493952a182fe6b1d15314", func := "hibernacle/hibernaclelaw03.CipherAlike", spec := "cipherAlike", unfollowed := true, recurses := true, apart := false }
def CipherAlikeSaid : Prop := cipherAlikeRow.holds Try.pinned (OpenSpec.ofChange cipherAlikeSpec)

/-- ITS FALSE NEIGHBOUR: 'it returns false'. Refute it at one input. -/
def cipherAlikeWrong : ChangeSpec := { name := "cipherAlike", fn := fun _ => fun
  | [d1, d2, d3] => { results := [.lit (.bool false)], args := [d1, d2, d3] }
  | _ => none }
def CipherAlikeWrongFalsely : Prop := cipherAlikeRow.holds Try.pinned (OpenSpec.ofChange cipherAlikeWrong)

/-- 'hibernaclelaw03.CipherStream': WHATEVER THE INPUT: true; the input reads as it did. -/
def cipherStreamSpec : ChangeSpec := { name := "cipherStream", fn := fun _ => fun
  | [d1, d2] => { results := [.lit (.bool true)], args := [d1, d2] }
  | _ => none }
def cipherStreamRow : OpenClaim := { program := "ytaafcddcglngeaa", sum := "34cf077941759acf35d74a830086406e8aabf826eb4493952a182fe6b1d15314", func := "hibernacle/hibernaclelaw03.CipherStream", spec := "cipherStream", unfollowed := true, recurses := true, apart := false }
def CipherStreamSaid : Prop := cipherStreamRow.holds Try.pinned (OpenSpec.ofChange cipherStreamSpec)

/-- ITS FALSE NEIGHBOUR: 'it returns false'. Refute it at one input. -/
def cipherStreamWrong : ChangeSpec := { name := "cipherStream", fn := fun _ => fun
  | [d1, d2] => { results := [.lit (.bool false)], args := [d1, d2] }
  | _ => none }
def CipherStreamWrongFalsely : Prop := cipherStreamRow.holds Try.pinned (OpenSpec.ofChange cipherStreamWrong)

/- THE SECOND FORM. 'bulk': how many values and letters a reading holds, each counted each time it is reached (what is shared counts as often as it is met; a slice's spare places count too). A statement '..UptoSaid' is the law's where the arguments, and the package variables that the reading takes, are together of bulk at most 1048576: NARROWER than '..Said'. Prove '..Said' where nothing that the law and all that it calls make is longer than what came in: it says more and counts as full. Else prove '..UptoSaid'. A law counts once. -/
mutual
def uptoBulk {H : Type} : DataW H → Nat
  | .lit (.string bytes) => bytes.length + 1
  | .lit _ => 1
  | .nil => 1
  | .ptr d => uptoBulk d + 1
  | .slice elems spare => uptoBulkAll elems + uptoBulkAll spare + 1
  | .agg parts => uptoBulkAll parts + 1
  | .iface _ d => uptoBulk d + 1
  | .map entries => uptoBulkEntries entries + 1
  | .held _ => 1
def uptoBulkAll {H : Type} : List (DataW H) → Nat
  | [] => 0
  | d :: r => uptoBulk d + uptoBulkAll r
def uptoBulkEntries {H : Type} : List (Lit × DataW H) → Nat
  | [] => 0
  | x :: r => uptoBulkEntry x + uptoBulkEntries r
def uptoBulkEntry {H : Type} : Lit × DataW H → Nat
  | (.string bytes, d) => bytes.length + uptoBulk d + 1
  | (_, d) => uptoBulk d + 1
 end
def uptoSmall : (H : Type) → List (DataW H) → Bool := fun _ ds => decide (uptoBulkAll ds ≤ 1048576)
def OpenSpec.upto (s : _root_.Go.ChangeSpec) : _root_.Go.OpenSpec := { _root_.Go.OpenSpec.ofChange s with cond := some uptoSmall }

/-- 'hibernaclelaw03.CipherBlocks', WHERE WHAT IT READS IS OF BULK AT MOST 1048576: true; the input reads as it did. -/
def cipherBlocksUptoRow : OpenClaim := { program := "ytaafcddcglngeaa", sum := "34cf077941759acf35d74a830086406e8aabf826eb4493952a182fe6b1d15314", func := "hibernacle/hibernaclelaw03.CipherBlocks", spec := "cipherBlocks", unfollowed := true, recurses := true, apart := false, narrowed := true }
def CipherBlocksUptoSaid : Prop := cipherBlocksUptoRow.holds Try.pinned (OpenSpec.upto cipherBlocksSpec)

/-- 'hibernaclelaw03.CipherXors', WHERE WHAT IT READS IS OF BULK AT MOST 1048576: true; the input reads as it did. -/
def cipherXorsUptoRow : OpenClaim := { program := "ytaafcddcglngeaa", sum := "34cf077941759acf35d74a830086406e8aabf826eb4493952a182fe6b1d15314", func := "hibernacle/hibernaclelaw03.CipherXors", spec := "cipherXors", unfollowed := true, recurses := true, apart := false, narrowed := true }
def CipherXorsUptoSaid : Prop := cipherXorsUptoRow.holds Try.pinned (OpenSpec.upto cipherXorsSpec)

/-- 'hibernaclelaw03.CipherBack', WHERE WHAT IT READS IS OF BULK AT MOST 1048576: true; the input reads as it did. -/
def cipherBackUptoRow : OpenClaim := { program := "ytaafcddcglngeaa", sum := "34cf077941759acf35d74a830086406e8aabf826eb4493952a182fe6b1d15314", func := "hibernacle/hibernaclelaw03.CipherBack", spec := "cipherBack", unfollowed := true, recurses := true, apart := false, narrowed := true }
def CipherBackUptoSaid : Prop := cipherBackUptoRow.holds Try.pinned (OpenSpec.upto cipherBackSpec)

/-- 'hibernaclelaw03.CipherParts', WHERE WHAT IT READS IS OF BULK AT MOST 1048576: true; the input reads as it did. -/
def cipherPartsUptoRow : OpenClaim := { program := "ytaafcddcglngeaa", sum := "34cf077941759acf35d74a830086406e8aabf826eb4493952a182fe6b1d15314", func := "hibernacle/hibernaclelaw03.CipherParts", spec := "cipherParts", unfollowed := true, recurses := true, apart := false, narrowed := true }
def CipherPartsUptoSaid : Prop := cipherPartsUptoRow.holds Try.pinned (OpenSpec.upto cipherPartsSpec)

/-- 'hibernaclelaw03.CipherAlike', WHERE WHAT IT READS IS OF BULK AT MOST 1048576: true; the input reads as it did. -/
def cipherAlikeUptoRow : OpenClaim := { program := "ytaafcddcglngeaa", sum := "34cf077941759acf35d74a830086406e8aabf826eb4493952a182fe6b1d15314", func := "hibernacle/hibernaclelaw03.CipherAlike", spec := "cipherAlike", unfollowed := true, recurses := true, apart := false, narrowed := true }
def CipherAlikeUptoSaid : Prop := cipherAlikeUptoRow.holds Try.pinned (OpenSpec.upto cipherAlikeSpec)

/-- 'hibernaclelaw03.CipherStream', WHERE WHAT IT READS IS OF BULK AT MOST 1048576: true; the input reads as it did. -/
def cipherStreamUptoRow : OpenClaim := { program := "ytaafcddcglngeaa", sum := "34cf077941759acf35d74a830086406e8aabf826eb4493952a182fe6b1d15314", func := "hibernacle/hibernaclelaw03.CipherStream", spec := "cipherStream", unfollowed := true, recurses := true, apart := false, narrowed := true }
def CipherStreamUptoSaid : Prop := cipherStreamUptoRow.holds Try.pinned (OpenSpec.upto cipherStreamSpec)

end Rows
end Go.Proofs.Ytaafcddcglngeaa
