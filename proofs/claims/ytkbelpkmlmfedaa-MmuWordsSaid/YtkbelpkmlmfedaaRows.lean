/-
  No cell of these rows narrows 'for every input' (looked for: loops, veiled, ifaces, maps, wideKeys, modest, calm, conditions, laid).
  DERIVED. THE GIVEN ROWS OF THIS SEAT. 12 by the template 'for every input the law returns true; each argument reads behind the call as it read before'; 0 by the template 'total and deterministic' (their statements: YtkbelpkmlmfedaaTotals.lean).
  GIVEN WITH THE SEED: the statements are not yours to turn. If you find one false, say at which input.
  Laid BY PROGRAM, IN A SANDBOX (cutbox-rows.mjs): the forced cells as the released guide's own fill.sh prints them over the translation 1e593100a6540c53… (all of the seat's roots in one cut). By AI agents, Wed Nov 11 2026. No macro, syntax, notation, axiom, sorry.
-/
import Derived.Test.YtkbelpkmlmfedaaChecked
import GoSem.Claim
import GoSem.ClaimJoined
import GoSem.ClaimMapViews
import Derived.JoinedTies
import Derived.KernelRfl
namespace Go.Proofs.Ytkbelpkmlmfedaa
/- THE CELL 'sum', in the pinned program and in every row, IS THE sha256 OF THE DUMP (.gsa) THAT YtkbelpkmlmfedaaProg.lean LOADS. Nothing in Lean hashes anything: it is a label: what it is worth is what the hold of that sum in a sandbox is worth. -/
noncomputable def Try.pinned : Pinned := { name := "ytkbelpkmlmfedaa", sum := "1e593100a6540c53f137e1ad4545992501eb0cb3e8e8d8d9295f7a4402c561cf", checked := Try.checked }
namespace Rows
def none {H : Type} : Left H := { results := [], args := [] }

/-- 'hibernaclelaw12.ExeBytes': WHATEVER THE INPUT: true; the input reads as it did. -/
def exeBytesSpec : ChangeSpec := { name := "exeBytes", fn := fun _ => fun
  | [d] => { results := [.lit (.bool true)], args := [d] }
  | _ => none }
def exeBytesRow : OpenClaim := { program := "ytkbelpkmlmfedaa", sum := "1e593100a6540c53f137e1ad4545992501eb0cb3e8e8d8d9295f7a4402c561cf", func := "hibernacle/hibernaclelaw12.ExeBytes", spec := "exeBytes", inPlace := ["internal/abi.NoEscape", "internal/bytealg.MakeNoZero"], unfollowed := true, recurses := true, apart := false }
def ExeBytesSaid : Prop := exeBytesRow.holds Try.pinned (OpenSpec.ofChange exeBytesSpec)

/-- ITS FALSE NEIGHBOUR: 'it returns false'. Refute it at one input. -/
def exeBytesWrong : ChangeSpec := { name := "exeBytes", fn := fun _ => fun
  | [d] => { results := [.lit (.bool false)], args := [d] }
  | _ => none }
def ExeBytesWrongFalsely : Prop := exeBytesRow.holds Try.pinned (OpenSpec.ofChange exeBytesWrong)

/-- 'hibernaclelaw12.ExeReads': WHATEVER THE INPUT: true; the input reads as it did. -/
def exeReadsSpec : ChangeSpec := { name := "exeReads", fn := fun _ => fun
  | [d] => { results := [.lit (.bool true)], args := [d] }
  | _ => none }
def exeReadsRow : OpenClaim := { program := "ytkbelpkmlmfedaa", sum := "1e593100a6540c53f137e1ad4545992501eb0cb3e8e8d8d9295f7a4402c561cf", func := "hibernacle/hibernaclelaw12.ExeReads", spec := "exeReads", inPlace := ["internal/abi.NoEscape", "internal/bytealg.MakeNoZero"], unfollowed := true, recurses := true, apart := false }
def ExeReadsSaid : Prop := exeReadsRow.holds Try.pinned (OpenSpec.ofChange exeReadsSpec)

/-- ITS FALSE NEIGHBOUR: 'it returns false'. Refute it at one input. -/
def exeReadsWrong : ChangeSpec := { name := "exeReads", fn := fun _ => fun
  | [d] => { results := [.lit (.bool false)], args := [d] }
  | _ => none }
def ExeReadsWrongFalsely : Prop := exeReadsRow.holds Try.pinned (OpenSpec.ofChange exeReadsWrong)

/-- 'hibernaclelaw12.ExeLays': WHATEVER THE INPUT: true; the input reads as it did. -/
def exeLaysSpec : ChangeSpec := { name := "exeLays", fn := fun _ => fun
  | [d] => { results := [.lit (.bool true)], args := [d] }
  | _ => none }
def exeLaysRow : OpenClaim := { program := "ytkbelpkmlmfedaa", sum := "1e593100a6540c53f137e1ad4545992501eb0cb3e8e8d8d9295f7a4402c561cf", func := "hibernacle/hibernaclelaw12.ExeLays", spec := "exeLays", inPlace := ["internal/abi.NoEscape", "internal/bytealg.MakeNoZero"], apart := false }
def ExeLaysSaid : Prop := exeLaysRow.holds Try.pinned (OpenSpec.ofChange exeLaysSpec)

/-- ITS FALSE NEIGHBOUR: 'it returns false'. Refute it at one input. -/
def exeLaysWrong : ChangeSpec := { name := "exeLays", fn := fun _ => fun
  | [d] => { results := [.lit (.bool false)], args := [d] }
  | _ => none }
def ExeLaysWrongFalsely : Prop := exeLaysRow.holds Try.pinned (OpenSpec.ofChange exeLaysWrong)

/-- 'hibernaclelaw12.ExePages': WHATEVER THE INPUT: true; the input reads as it did. -/
def exePagesSpec : ChangeSpec := { name := "exePages", fn := fun _ => fun
  | [d] => { results := [.lit (.bool true)], args := [d] }
  | _ => none }
def exePagesRow : OpenClaim := { program := "ytkbelpkmlmfedaa", sum := "1e593100a6540c53f137e1ad4545992501eb0cb3e8e8d8d9295f7a4402c561cf", func := "hibernacle/hibernaclelaw12.ExePages", spec := "exePages", inPlace := ["internal/abi.NoEscape", "internal/bytealg.MakeNoZero"], apart := false }
def ExePagesSaid : Prop := exePagesRow.holds Try.pinned (OpenSpec.ofChange exePagesSpec)

/-- ITS FALSE NEIGHBOUR: 'it returns false'. Refute it at one input. -/
def exePagesWrong : ChangeSpec := { name := "exePages", fn := fun _ => fun
  | [d] => { results := [.lit (.bool false)], args := [d] }
  | _ => none }
def ExePagesWrongFalsely : Prop := exePagesRow.holds Try.pinned (OpenSpec.ofChange exePagesWrong)

/-- 'hibernaclelaw12.ExeCuts': WHATEVER THE INPUT: true; the input reads as it did. -/
def exeCutsSpec : ChangeSpec := { name := "exeCuts", fn := fun _ => fun
  | [d1, d2] => { results := [.lit (.bool true)], args := [d1, d2] }
  | _ => none }
def exeCutsRow : OpenClaim := { program := "ytkbelpkmlmfedaa", sum := "1e593100a6540c53f137e1ad4545992501eb0cb3e8e8d8d9295f7a4402c561cf", func := "hibernacle/hibernaclelaw12.ExeCuts", spec := "exeCuts", inPlace := ["internal/abi.NoEscape", "internal/bytealg.MakeNoZero"], unfollowed := true, recurses := true, apart := false }
def ExeCutsSaid : Prop := exeCutsRow.holds Try.pinned (OpenSpec.ofChange exeCutsSpec)

/-- ITS FALSE NEIGHBOUR: 'it returns false'. Refute it at one input. -/
def exeCutsWrong : ChangeSpec := { name := "exeCuts", fn := fun _ => fun
  | [d1, d2] => { results := [.lit (.bool false)], args := [d1, d2] }
  | _ => none }
def ExeCutsWrongFalsely : Prop := exeCutsRow.holds Try.pinned (OpenSpec.ofChange exeCutsWrong)

/-- 'hibernaclelaw12.ExeWords': WHATEVER THE INPUT: true; the input reads as it did. -/
def exeWordsSpec : ChangeSpec := { name := "exeWords", fn := fun _ => fun
  | [d] => { results := [.lit (.bool true)], args := [d] }
  | _ => none }
def exeWordsRow : OpenClaim := { program := "ytkbelpkmlmfedaa", sum := "1e593100a6540c53f137e1ad4545992501eb0cb3e8e8d8d9295f7a4402c561cf", func := "hibernacle/hibernaclelaw12.ExeWords", spec := "exeWords", inPlace := ["internal/abi.NoEscape", "internal/bytealg.MakeNoZero"], apart := false }
def ExeWordsSaid : Prop := exeWordsRow.holds Try.pinned (OpenSpec.ofChange exeWordsSpec)

/-- ITS FALSE NEIGHBOUR: 'it returns false'. Refute it at one input. -/
def exeWordsWrong : ChangeSpec := { name := "exeWords", fn := fun _ => fun
  | [d] => { results := [.lit (.bool false)], args := [d] }
  | _ => none }
def ExeWordsWrongFalsely : Prop := exeWordsRow.holds Try.pinned (OpenSpec.ofChange exeWordsWrong)

/-- 'hibernaclelaw13.MmuFinds': WHATEVER THE INPUT: true; the input reads as it did. -/
def mmuFindsSpec : ChangeSpec := { name := "mmuFinds", fn := fun _ => fun
  | [d1, d2, d3] => { results := [.lit (.bool true)], args := [d1, d2, d3] }
  | _ => none }
def mmuFindsRow : OpenClaim := { program := "ytkbelpkmlmfedaa", sum := "1e593100a6540c53f137e1ad4545992501eb0cb3e8e8d8d9295f7a4402c561cf", func := "hibernacle/hibernaclelaw13.MmuFinds", spec := "mmuFinds", inPlace := ["internal/abi.NoEscape", "internal/bytealg.MakeNoZero"], unfollowed := true, recurses := true, apart := false }
def MmuFindsSaid : Prop := mmuFindsRow.holds Try.pinned (OpenSpec.ofChange mmuFindsSpec)

/-- ITS FALSE NEIGHBOUR: 'it returns false'. Refute it at one input. -/
def mmuFindsWrong : ChangeSpec := { name := "mmuFinds", fn := fun _ => fun
  | [d1, d2, d3] => { results := [.lit (.bool false)], args := [d1, d2, d3] }
  | _ => none }
def MmuFindsWrongFalsely : Prop := mmuFindsRow.holds Try.pinned (OpenSpec.ofChange mmuFindsWrong)

/-- 'hibernaclelaw13.MmuCopies': WHATEVER THE INPUT: true; the input reads as it did. -/
def mmuCopiesSpec : ChangeSpec := { name := "mmuCopies", fn := fun _ => fun
  | [d1, d2, d3] => { results := [.lit (.bool true)], args := [d1, d2, d3] }
  | _ => none }
def mmuCopiesRow : OpenClaim := { program := "ytkbelpkmlmfedaa", sum := "1e593100a6540c53f137e1ad4545992501eb0cb3e8e8d8d9295f7a4402c561cf", func := "hibernacle/hibernaclelaw13.MmuCopies", spec := "mmuCopies", inPlace := ["internal/abi.NoEscape", "internal/bytealg.MakeNoZero"], unfollowed := true, recurses := true, apart := false }
def MmuCopiesSaid : Prop := mmuCopiesRow.holds Try.pinned (OpenSpec.ofChange mmuCopiesSpec)

/-- ITS FALSE NEIGHBOUR: 'it returns false'. Refute it at one input. -/
def mmuCopiesWrong : ChangeSpec := { name := "mmuCopies", fn := fun _ => fun
  | [d1, d2, d3] => { results := [.lit (.bool false)], args := [d1, d2, d3] }
  | _ => none }
def MmuCopiesWrongFalsely : Prop := mmuCopiesRow.holds Try.pinned (OpenSpec.ofChange mmuCopiesWrong)

/-- 'hibernaclelaw13.MmuBack': WHATEVER THE INPUT: true; the input reads as it did. -/
def mmuBackSpec : ChangeSpec := { name := "mmuBack", fn := fun _ => fun
  | [d1, d2, d3] => { results := [.lit (.bool true)], args := [d1, d2, d3] }
  | _ => none }
def mmuBackRow : OpenClaim := { program := "ytkbelpkmlmfedaa", sum := "1e593100a6540c53f137e1ad4545992501eb0cb3e8e8d8d9295f7a4402c561cf", func := "hibernacle/hibernaclelaw13.MmuBack", spec := "mmuBack", inPlace := ["internal/abi.NoEscape", "internal/bytealg.MakeNoZero"], unfollowed := true, recurses := true, apart := false }
def MmuBackSaid : Prop := mmuBackRow.holds Try.pinned (OpenSpec.ofChange mmuBackSpec)

/-- ITS FALSE NEIGHBOUR: 'it returns false'. Refute it at one input. -/
def mmuBackWrong : ChangeSpec := { name := "mmuBack", fn := fun _ => fun
  | [d1, d2, d3] => { results := [.lit (.bool false)], args := [d1, d2, d3] }
  | _ => none }
def MmuBackWrongFalsely : Prop := mmuBackRow.holds Try.pinned (OpenSpec.ofChange mmuBackWrong)

/-- 'hibernaclelaw13.MmuWords': WHATEVER THE INPUT: true; the input reads as it did. -/
def mmuWordsSpec : ChangeSpec := { name := "mmuWords", fn := fun _ => fun
  | [d1, d2] => { results := [.lit (.bool true)], args := [d1, d2] }
  | _ => none }
def mmuWordsRow : OpenClaim := { program := "ytkbelpkmlmfedaa", sum := "1e593100a6540c53f137e1ad4545992501eb0cb3e8e8d8d9295f7a4402c561cf", func := "hibernacle/hibernaclelaw13.MmuWords", spec := "mmuWords", inPlace := ["internal/abi.NoEscape", "internal/bytealg.MakeNoZero"], unfollowed := true, recurses := true, apart := false }
def MmuWordsSaid : Prop := mmuWordsRow.holds Try.pinned (OpenSpec.ofChange mmuWordsSpec)

/-- ITS FALSE NEIGHBOUR: 'it returns false'. Refute it at one input. -/
def mmuWordsWrong : ChangeSpec := { name := "mmuWords", fn := fun _ => fun
  | [d1, d2] => { results := [.lit (.bool false)], args := [d1, d2] }
  | _ => none }
def MmuWordsWrongFalsely : Prop := mmuWordsRow.holds Try.pinned (OpenSpec.ofChange mmuWordsWrong)

/-- 'hibernaclelaw13.MmuApart': WHATEVER THE INPUT: true; the input reads as it did. -/
def mmuApartSpec : ChangeSpec := { name := "mmuApart", fn := fun _ => fun
  | [d1, d2, d3] => { results := [.lit (.bool true)], args := [d1, d2, d3] }
  | _ => none }
def mmuApartRow : OpenClaim := { program := "ytkbelpkmlmfedaa", sum := "1e593100a6540c53f137e1ad4545992501eb0cb3e8e8d8d9295f7a4402c561cf", func := "hibernacle/hibernaclelaw13.MmuApart", spec := "mmuApart", inPlace := ["internal/abi.NoEscape", "internal/bytealg.MakeNoZero"], unfollowed := true, recurses := true, apart := false }
def MmuApartSaid : Prop := mmuApartRow.holds Try.pinned (OpenSpec.ofChange mmuApartSpec)

/-- ITS FALSE NEIGHBOUR: 'it returns false'. Refute it at one input. -/
def mmuApartWrong : ChangeSpec := { name := "mmuApart", fn := fun _ => fun
  | [d1, d2, d3] => { results := [.lit (.bool false)], args := [d1, d2, d3] }
  | _ => none }
def MmuApartWrongFalsely : Prop := mmuApartRow.holds Try.pinned (OpenSpec.ofChange mmuApartWrong)

/-- 'hibernaclelaw13.MmuPieces': WHATEVER THE INPUT: true; the input reads as it did. -/
def mmuPiecesSpec : ChangeSpec := { name := "mmuPieces", fn := fun _ => fun
  | [d1, d2, d3] => { results := [.lit (.bool true)], args := [d1, d2, d3] }
  | _ => none }
def mmuPiecesRow : OpenClaim := { program := "ytkbelpkmlmfedaa", sum := "1e593100a6540c53f137e1ad4545992501eb0cb3e8e8d8d9295f7a4402c561cf", func := "hibernacle/hibernaclelaw13.MmuPieces", spec := "mmuPieces", inPlace := ["internal/abi.NoEscape", "internal/bytealg.MakeNoZero"], unfollowed := true, recurses := true, apart := false }
def MmuPiecesSaid : Prop := mmuPiecesRow.holds Try.pinned (OpenSpec.ofChange mmuPiecesSpec)

/-- ITS FALSE NEIGHBOUR: 'it returns false'. Refute it at one input. -/
def mmuPiecesWrong : ChangeSpec := { name := "mmuPieces", fn := fun _ => fun
  | [d1, d2, d3] => { results := [.lit (.bool false)], args := [d1, d2, d3] }
  | _ => none }
def MmuPiecesWrongFalsely : Prop := mmuPiecesRow.holds Try.pinned (OpenSpec.ofChange mmuPiecesWrong)

/- THE SECOND FORM. 'bulk': how many values and letters a reading holds, each counted each time it is reached (what is shared counts as often as it is met; a slice's spare places count too). A statement '..UptoSaid' is the law's where the arguments, and the package variables that the reading takes, are together of bulk at most 1048576: NARROWER than '..Said'. Prove '..Said' where nothing that the law and all that it calls make is longer than what came in: it says more and counts as full. Else prove '..UptoSaid'. A law counts once. -/
mutual
def uptoBulk {H : Type} : DataW H → Nat
  | .lit (.string bytes) => bytes.length + 1
  | .lit _ => 1
  | .nil => 1
  | .ptr d => uptoBulk d + 1
  | .slice elems spare => uptoBulkAll elems + uptoBulkAll spare + 1
  | .agg parts => uptoBulkAll parts + 1
  | .iface _ d => uptoBulk d + 1
  | .map entries => uptoBulkEntries entries + 1
  | .held _ => 1
def uptoBulkAll {H : Type} : List (DataW H) → Nat
  | [] => 0
  | d :: r => uptoBulk d + uptoBulkAll r
def uptoBulkEntries {H : Type} : List (Lit × DataW H) → Nat
  | [] => 0
  | x :: r => uptoBulkEntry x + uptoBulkEntries r
def uptoBulkEntry {H : Type} : Lit × DataW H → Nat
  | (.string bytes, d) => bytes.length + uptoBulk d + 1
  | (_, d) => uptoBulk d + 1
 end
def uptoSmall : (H : Type) → List (DataW H) → Bool := fun _ ds => decide (uptoBulkAll ds ≤ 1048576)
def OpenSpec.upto (s : _root_.Go.ChangeSpec) : _root_.Go.OpenSpec := { _root_.Go.OpenSpec.ofChange s with cond := some uptoSmall }

/-- 'hibernaclelaw12.ExeBytes', WHERE WHAT IT READS IS OF BULK AT MOST 1048576: true; the input reads as it did. -/
def exeBytesUptoRow : OpenClaim := { program := "ytkbelpkmlmfedaa", sum := "1e593100a6540c53f137e1ad4545992501eb0cb3e8e8d8d9295f7a4402c561cf", func := "hibernacle/hibernaclelaw12.ExeBytes", spec := "exeBytes", inPlace := ["internal/abi.NoEscape", "internal/bytealg.MakeNoZero"], unfollowed := true, recurses := true, apart := false, narrowed := true }
def ExeBytesUptoSaid : Prop := exeBytesUptoRow.holds Try.pinned (OpenSpec.upto exeBytesSpec)

/-- 'hibernaclelaw12.ExeReads', WHERE WHAT IT READS IS OF BULK AT MOST 1048576: true; the input reads as it did. -/
def exeReadsUptoRow : OpenClaim := { program := "ytkbelpkmlmfedaa", sum := "1e593100a6540c53f137e1ad4545992501eb0cb3e8e8d8d9295f7a4402c561cf", func := "hibernacle/hibernaclelaw12.ExeReads", spec := "exeReads", inPlace := ["internal/abi.NoEscape", "internal/bytealg.MakeNoZero"], unfollowed := true, recurses := true, apart := false, narrowed := true }
def ExeReadsUptoSaid : Prop := exeReadsUptoRow.holds Try.pinned (OpenSpec.upto exeReadsSpec)

/-- 'hibernaclelaw12.ExeLays', WHERE WHAT IT READS IS OF BULK AT MOST 1048576: true; the input reads as it did. -/
def exeLaysUptoRow : OpenClaim := { program := "ytkbelpkmlmfedaa", sum := "1e593100a6540c53f137e1ad4545992501eb0cb3e8e8d8d9295f7a4402c561cf", func := "hibernacle/hibernaclelaw12.ExeLays", spec := "exeLays", inPlace := ["internal/abi.NoEscape", "internal/bytealg.MakeNoZero"], apart := false, narrowed := true }
def ExeLaysUptoSaid : Prop := exeLaysUptoRow.holds Try.pinned (OpenSpec.upto exeLaysSpec)

/-- 'hibernaclelaw12.ExePages', WHERE WHAT IT READS IS OF BULK AT MOST 1048576: true; the input reads as it did. -/
def exePagesUptoRow : OpenClaim := { program := "ytkbelpkmlmfedaa", sum := "1e593100a6540c53f137e1ad4545992501eb0cb3e8e8d8d9295f7a4402c561cf", func := "hibernacle/hibernaclelaw12.ExePages", spec := "exePages", inPlace := ["internal/abi.NoEscape", "internal/bytealg.MakeNoZero"], apart := false, narrowed := true }
def ExePagesUptoSaid : Prop := exePagesUptoRow.holds Try.pinned (OpenSpec.upto exePagesSpec)

/-- 'hibernaclelaw12.ExeCuts', WHERE WHAT IT READS IS OF BULK AT MOST 1048576: true; the input reads as it did. -/
def exeCutsUptoRow : OpenClaim := { program := "ytkbelpkmlmfedaa", sum := "1e593100a6540c53f137e1ad4545992501eb0cb3e8e8d8d9295f7a4402c561cf", func := "hibernacle/hibernaclelaw12.ExeCuts", spec := "exeCuts", inPlace := ["internal/abi.NoEscape", "internal/bytealg.MakeNoZero"], unfollowed := true, recurses := true, apart := false, narrowed := true }
def ExeCutsUptoSaid : Prop := exeCutsUptoRow.holds Try.pinned (OpenSpec.upto exeCutsSpec)

/-- 'hibernaclelaw12.ExeWords', WHERE WHAT IT READS IS OF BULK AT MOST 1048576: true; the input reads as it did. -/
def exeWordsUptoRow : OpenClaim := { program := "ytkbelpkmlmfedaa", sum := "1e593100a6540c53f137e1ad4545992501eb0cb3e8e8d8d9295f7a4402c561cf", func := "hibernacle/hibernaclelaw12.ExeWords", spec := "exeWords", inPlace := ["internal/abi.NoEscape", "internal/bytealg.MakeNoZero"], apart := false, narrowed := true }
def ExeWordsUptoSaid : Prop := exeWordsUptoRow.holds Try.pinned (OpenSpec.upto exeWordsSpec)

/-- 'hibernaclelaw13.MmuFinds', WHERE WHAT IT READS IS OF BULK AT MOST 1048576: true; the input reads as it did. -/
def mmuFindsUptoRow : OpenClaim := { program := "ytkbelpkmlmfedaa", sum := "1e593100a6540c53f137e1ad4545992501eb0cb3e8e8d8d9295f7a4402c561cf", func := "hibernacle/hibernaclelaw13.MmuFinds", spec := "mmuFinds", inPlace := ["internal/abi.NoEscape", "internal/bytealg.MakeNoZero"], unfollowed := true, recurses := true, apart := false, narrowed := true }
def MmuFindsUptoSaid : Prop := mmuFindsUptoRow.holds Try.pinned (OpenSpec.upto mmuFindsSpec)

/-- 'hibernaclelaw13.MmuCopies', WHERE WHAT IT READS IS OF BULK AT MOST 1048576: true; the input reads as it did. -/
def mmuCopiesUptoRow : OpenClaim := { program := "ytkbelpkmlmfedaa", sum := "1e593100a6540c53f137e1ad4545992501eb0cb3e8e8d8d9295f7a4402c561cf", func := "hibernacle/hibernaclelaw13.MmuCopies", spec := "mmuCopies", inPlace := ["internal/abi.NoEscape", "internal/bytealg.MakeNoZero"], unfollowed := true, recurses := true, apart := false, narrowed := true }
def MmuCopiesUptoSaid : Prop := mmuCopiesUptoRow.holds Try.pinned (OpenSpec.upto mmuCopiesSpec)

/-- 'hibernaclelaw13.MmuBack', WHERE WHAT IT READS IS OF BULK AT MOST 1048576: true; the input reads as it did. -/
def mmuBackUptoRow : OpenClaim := { program := "ytkbelpkmlmfedaa", sum := "1e593100a6540c53f137e1ad4545992501eb0cb3e8e8d8d9295f7a4402c561cf", func := "hibernacle/hibernaclelaw13.MmuBack", spec := "mmuBack", inPlace := ["internal/abi.NoEscape", "internal/bytealg.MakeNoZero"], unfollowed := true, recurses := true, apart := false, narrowed := true }
def MmuBackUptoSaid : Prop := mmuBackUptoRow.holds Try.pinned (OpenSpec.upto mmuBackSpec)

/-- 'hibernaclelaw13.MmuWords', WHERE WHAT IT READS IS OF BULK AT MOST 1048576: true; the input reads as it did. -/
def mmuWordsUptoRow : OpenClaim := { program := "ytkbelpkmlmfedaa", sum := "1e593100a6540c53f137e1ad4545992501eb0cb3e8e8d8d9295f7a4402c561cf", func := "hibernacle/hibernaclelaw13.MmuWords", spec := "mmuWords", inPlace := ["internal/abi.NoEscape", "internal/bytealg.MakeNoZero"], unfollowed := true, recurses := true, apart := false, narrowed := true }
def MmuWordsUptoSaid : Prop := mmuWordsUptoRow.holds Try.pinned (OpenSpec.upto mmuWordsSpec)

/-- 'hibernaclelaw13.MmuApart', WHERE WHAT IT READS IS OF BULK AT MOST 1048576: true; the input reads as it did. -/
def mmuApartUptoRow : OpenClaim := { program := "ytkbelpkmlmfedaa", sum := "1e593100a6540c53f137e1ad4545992501eb0cb3e8e8d8d9295f7a4402c561cf", func := "hibernacle/hibernaclelaw13.MmuApart", spec := "mmuApart", inPlace := ["internal/abi.NoEscape", "internal/bytealg.MakeNoZero"], unfollowed := true, recurses := true, apart := false, narrowed := true }
def MmuApartUptoSaid : Prop := mmuApartUptoRow.holds Try.pinned (OpenSpec.upto mmuApartSpec)

/-- 'hibernaclelaw13.MmuPieces', WHERE WHAT IT READS IS OF BULK AT MOST 1048576: true; the input reads as it did. -/
def mmuPiecesUptoRow : OpenClaim := { program := "ytkbelpkmlmfedaa", sum := "1e593100a6540c53f137e1ad4545992501eb0cb3e8e8d8d9295f7a4402c561cf", func := "hibernacle/hibernaclelaw13.MmuPieces", spec := "mmuPieces", inPlace := ["internal/abi.NoEscape", "internal/bytealg.MakeNoZero"], unfollowed := true, recurses := true, apart := false, narrowed := true }
def MmuPiecesUptoSaid : Prop := mmuPiecesUptoRow.holds Try.pinned (OpenSpec.upto mmuPiecesSpec)

end Rows
end Go.Proofs.Ytkbelpkmlmfedaa
