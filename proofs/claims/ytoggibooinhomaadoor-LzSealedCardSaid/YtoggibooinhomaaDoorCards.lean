/-
  DERIVED. GIVEN WITH THE SEED: THE CARDS: each row of YtoggibooinhomaaDoorRows.lean that lists a variable, with what it lists TIED to the program's text (the seventh form; the later family's looks); each row that meets fmt, with fmt's text TOLD by the authors' own Lean function (tested against real Go, not proved from fmt's source: count such statements apart). THE CARD IS WHAT COUNTS. Prove the row's statement (the work); the ties are given (YtoggibooinhomaaDoorTie.lean); close each card by the builder's one call (the guide's Derived/Test/ToyasCard.lean, 'card_holds'). Laid BY PROGRAM, IN A SANDBOX (cutbox-door.mjs). By AI agents, Wed Nov 11 2026. No macro, syntax, notation, axiom, sorry.
-/
import Derived.Test.YtoggibooinhomaaDoorRows
import GoSem.ClaimSeven
namespace Go.Proofs.YtoggibooinhomaaDoor
namespace Rows

/-- THE TIED CARD OF 'hibernaclelaw08.LzSealed'. -/
def lzSealedCard : Claim7 := { stood := { row := lzSealedRow, standIns := [], harness := (true, "2eec57b883477a5fa5b5cf7382cc8e374b22e54a726592c2efccc0e5708b25ab"), looks := false }, kinds := [], alts := [], laidByText := true, laidKinds := [.data, .data], laidTests := true, laidLooks := .later }
def LzSealedCardSaid : Prop := Claim7.holds Tryd.pinned (.plain (OpenSpec.ofChange lzSealedSpec)) lzSealedCard

/-- THE SECOND FORM's CARD OF 'hibernaclelaw08.LzSealed'. -/
def lzSealedUptoCard : Claim7 := { stood := { row := lzSealedUptoRow, standIns := [], harness := (true, "2eec57b883477a5fa5b5cf7382cc8e374b22e54a726592c2efccc0e5708b25ab"), looks := false }, kinds := [], alts := [], laidByText := true, laidKinds := [.data, .data], laidTests := true, laidLooks := .later }
def LzSealedUptoCardSaid : Prop := Claim7.holds Tryd.pinned (.plain (OpenSpec.upto lzSealedSpec)) lzSealedUptoCard
end Rows
end Go.Proofs.YtoggibooinhomaaDoor
