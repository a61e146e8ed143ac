/-
  DERIVED. GIVEN WITH THE SEED: THE CARDS: each row of YtdjejohppbkbcaaDoorRows.lean that lists a variable, with what it lists TIED to the program's text (the seventh form; the later family's looks); each row that meets fmt, with fmt's text TOLD by the authors' own Lean function (tested against real Go, not proved from fmt's source: count such statements apart). THE CARD IS WHAT COUNTS. Prove the row's statement (the work); the ties are given (YtdjejohppbkbcaaDoorTie.lean); close each card by the builder's one call (the guide's Derived/Test/ToyasCard.lean, 'card_holds'). Laid BY PROGRAM, IN A SANDBOX (cutbox-door.mjs). By AI agents, Wed Nov 11 2026. No macro, syntax, notation, axiom, sorry.
-/
import Derived.Test.YtdjejohppbkbcaaDoorRows
import GoSem.ClaimSeven
namespace Go.Proofs.YtdjejohppbkbcaaDoor
namespace Rows

/-- THE TIED CARD OF 'hibernaclelaw01.NumDecs'. -/
def numDecsCard : Claim7 := { stood := { row := numDecsRow, standIns := [], harness := (true, "d8832bd823517df1a9358c43e8e250c2a3cab5f42f1eac64cf38db06a8968f8f"), looks := true }, kinds := [], alts := [], laidByText := true, laidKinds := [.data, .data, .data, .sentinel, .sentinel], laidTests := true, laidLooks := .later }
def NumDecsCardSaid : Prop := Claim7.holds Tryd.pinned (.plain (OpenSpec.ofChange numDecsSpec)) numDecsCard

/-- THE SECOND FORM's CARD OF 'hibernaclelaw01.NumDecs'. -/
def numDecsUptoCard : Claim7 := { stood := { row := numDecsUptoRow, standIns := [], harness := (true, "d8832bd823517df1a9358c43e8e250c2a3cab5f42f1eac64cf38db06a8968f8f"), looks := true }, kinds := [], alts := [], laidByText := true, laidKinds := [.data, .data, .data, .sentinel, .sentinel], laidTests := true, laidLooks := .later }
def NumDecsUptoCardSaid : Prop := Claim7.holds Tryd.pinned (.plain (OpenSpec.upto numDecsSpec)) numDecsUptoCard
end Rows
end Go.Proofs.YtdjejohppbkbcaaDoor
