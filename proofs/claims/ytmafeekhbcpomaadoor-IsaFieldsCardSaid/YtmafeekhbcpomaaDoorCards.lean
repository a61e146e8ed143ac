/-
  DERIVED. GIVEN WITH THE SEED: THE CARDS: each row of YtmafeekhbcpomaaDoorRows.lean that lists a variable, with what it lists TIED to the program's text (the seventh form; the later family's looks); each row that meets fmt, with fmt's text TOLD by the authors' own Lean function (tested against real Go, not proved from fmt's source: count such statements apart). THE CARD IS WHAT COUNTS. Prove the row's statement (the work); the ties are given (YtmafeekhbcpomaaDoorTie.lean); close each card by the builder's one call (the guide's Derived/Test/ToyasCard.lean, 'card_holds'). Laid BY PROGRAM, IN A SANDBOX (cutbox-door.mjs). By AI agents, Wed Nov 11 2026. No macro, syntax, notation, axiom, sorry.
-/
import Derived.Test.YtmafeekhbcpomaaDoorRows
import GoSem.ClaimSeven
namespace Go.Proofs.YtmafeekhbcpomaaDoor
namespace Rows

/-- THE TIED CARD OF 'hibernaclelaw10.IsaEnc'. -/
def isaEncCard : Claim7 := { stood := { row := isaEncRow, standIns := [], harness := (true, "7a5cb32cc0faabf9e4efeeaba5f7e48709b65fa3ae9bb80a5a6b05a5ef5b0c4b"), looks := false }, kinds := [], alts := [], laidByText := true, laidKinds := [.data, .data, .data, .data], laidTests := true, laidLooks := .later }
def IsaEncCardSaid : Prop := Claim7.holds Tryd.pinned (.plain (OpenSpec.ofChange isaEncSpec)) isaEncCard

/-- THE TIED CARD OF 'hibernaclelaw10.IsaDec'. -/
def isaDecCard : Claim7 := { stood := { row := isaDecRow, standIns := [], harness := (true, "7a5cb32cc0faabf9e4efeeaba5f7e48709b65fa3ae9bb80a5a6b05a5ef5b0c4b"), looks := false }, kinds := [], alts := [], laidByText := true, laidKinds := [.data, .data, .data, .data], laidTests := true, laidLooks := .later }
def IsaDecCardSaid : Prop := Claim7.holds Tryd.pinned (.plain (OpenSpec.ofChange isaDecSpec)) isaDecCard

/-- THE TIED CARD OF 'hibernaclelaw10.IsaUnlike'. -/
def isaUnlikeCard : Claim7 := { stood := { row := isaUnlikeRow, standIns := [], harness := (true, "7a5cb32cc0faabf9e4efeeaba5f7e48709b65fa3ae9bb80a5a6b05a5ef5b0c4b"), looks := false }, kinds := [], alts := [], laidByText := true, laidKinds := [.data, .data, .data, .data], laidTests := true, laidLooks := .later }
def IsaUnlikeCardSaid : Prop := Claim7.holds Tryd.pinned (.plain (OpenSpec.ofChange isaUnlikeSpec)) isaUnlikeCard

/-- THE TIED CARD OF 'hibernaclelaw10.IsaText'. -/
def isaTextCard : Claim7 := { stood := { row := isaTextRow, standIns := [], harness := (true, "7a5cb32cc0faabf9e4efeeaba5f7e48709b65fa3ae9bb80a5a6b05a5ef5b0c4b"), looks := false }, kinds := [], alts := [], laidByText := true, laidKinds := [.data, .data, .data, .data], laidTests := true, laidLooks := .later }
def IsaTextCardSaid : Prop := Claim7.holds Tryd.pinned (.plain (OpenSpec.ofChange isaTextSpec)) isaTextCard

/-- THE TIED CARD OF 'hibernaclelaw10.IsaOp'. -/
def isaOpCard : Claim7 := { stood := { row := isaOpRow, standIns := [], harness := (true, "7a5cb32cc0faabf9e4efeeaba5f7e48709b65fa3ae9bb80a5a6b05a5ef5b0c4b"), looks := false }, kinds := [], alts := [], laidByText := true, laidKinds := [.data, .data, .data, .data], laidTests := true, laidLooks := .later }
def IsaOpCardSaid : Prop := Claim7.holds Tryd.pinned (.plain (OpenSpec.ofChange isaOpSpec)) isaOpCard

/-- THE TIED CARD OF 'hibernaclelaw10.IsaBits'. -/
def isaBitsCard : Claim7 := { stood := { row := isaBitsRow, standIns := [], harness := (true, "7a5cb32cc0faabf9e4efeeaba5f7e48709b65fa3ae9bb80a5a6b05a5ef5b0c4b"), looks := false }, kinds := [], alts := [], laidByText := true, laidKinds := [.data, .data, .data, .data], laidTests := true, laidLooks := .later }
def IsaBitsCardSaid : Prop := Claim7.holds Tryd.pinned (.plain (OpenSpec.ofChange isaBitsSpec)) isaBitsCard

/-- THE TIED CARD OF 'hibernaclelaw10.IsaFields'. -/
def isaFieldsCard : Claim7 := { stood := { row := isaFieldsRow, standIns := [], harness := (true, "7a5cb32cc0faabf9e4efeeaba5f7e48709b65fa3ae9bb80a5a6b05a5ef5b0c4b"), looks := false }, kinds := [], alts := [], laidByText := true, laidKinds := [.data, .data, .data, .data], laidTests := true, laidLooks := .later }
def IsaFieldsCardSaid : Prop := Claim7.holds Tryd.pinned (.plain (OpenSpec.ofChange isaFieldsSpec)) isaFieldsCard

/-- THE SECOND FORM's CARD OF 'hibernaclelaw10.IsaEnc'. -/
def isaEncUptoCard : Claim7 := { stood := { row := isaEncUptoRow, standIns := [], harness := (true, "7a5cb32cc0faabf9e4efeeaba5f7e48709b65fa3ae9bb80a5a6b05a5ef5b0c4b"), looks := false }, kinds := [], alts := [], laidByText := true, laidKinds := [.data, .data, .data, .data], laidTests := true, laidLooks := .later }
def IsaEncUptoCardSaid : Prop := Claim7.holds Tryd.pinned (.plain (OpenSpec.upto isaEncSpec)) isaEncUptoCard

/-- THE SECOND FORM's CARD OF 'hibernaclelaw10.IsaDec'. -/
def isaDecUptoCard : Claim7 := { stood := { row := isaDecUptoRow, standIns := [], harness := (true, "7a5cb32cc0faabf9e4efeeaba5f7e48709b65fa3ae9bb80a5a6b05a5ef5b0c4b"), looks := false }, kinds := [], alts := [], laidByText := true, laidKinds := [.data, .data, .data, .data], laidTests := true, laidLooks := .later }
def IsaDecUptoCardSaid : Prop := Claim7.holds Tryd.pinned (.plain (OpenSpec.upto isaDecSpec)) isaDecUptoCard

/-- THE SECOND FORM's CARD OF 'hibernaclelaw10.IsaUnlike'. -/
def isaUnlikeUptoCard : Claim7 := { stood := { row := isaUnlikeUptoRow, standIns := [], harness := (true, "7a5cb32cc0faabf9e4efeeaba5f7e48709b65fa3ae9bb80a5a6b05a5ef5b0c4b"), looks := false }, kinds := [], alts := [], laidByText := true, laidKinds := [.data, .data, .data, .data], laidTests := true, laidLooks := .later }
def IsaUnlikeUptoCardSaid : Prop := Claim7.holds Tryd.pinned (.plain (OpenSpec.upto isaUnlikeSpec)) isaUnlikeUptoCard

/-- THE SECOND FORM's CARD OF 'hibernaclelaw10.IsaText'. -/
def isaTextUptoCard : Claim7 := { stood := { row := isaTextUptoRow, standIns := [], harness := (true, "7a5cb32cc0faabf9e4efeeaba5f7e48709b65fa3ae9bb80a5a6b05a5ef5b0c4b"), looks := false }, kinds := [], alts := [], laidByText := true, laidKinds := [.data, .data, .data, .data], laidTests := true, laidLooks := .later }
def IsaTextUptoCardSaid : Prop := Claim7.holds Tryd.pinned (.plain (OpenSpec.upto isaTextSpec)) isaTextUptoCard

/-- THE SECOND FORM's CARD OF 'hibernaclelaw10.IsaOp'. -/
def isaOpUptoCard : Claim7 := { stood := { row := isaOpUptoRow, standIns := [], harness := (true, "7a5cb32cc0faabf9e4efeeaba5f7e48709b65fa3ae9bb80a5a6b05a5ef5b0c4b"), looks := false }, kinds := [], alts := [], laidByText := true, laidKinds := [.data, .data, .data, .data], laidTests := true, laidLooks := .later }
def IsaOpUptoCardSaid : Prop := Claim7.holds Tryd.pinned (.plain (OpenSpec.upto isaOpSpec)) isaOpUptoCard

/-- THE SECOND FORM's CARD OF 'hibernaclelaw10.IsaBits'. -/
def isaBitsUptoCard : Claim7 := { stood := { row := isaBitsUptoRow, standIns := [], harness := (true, "7a5cb32cc0faabf9e4efeeaba5f7e48709b65fa3ae9bb80a5a6b05a5ef5b0c4b"), looks := false }, kinds := [], alts := [], laidByText := true, laidKinds := [.data, .data, .data, .data], laidTests := true, laidLooks := .later }
def IsaBitsUptoCardSaid : Prop := Claim7.holds Tryd.pinned (.plain (OpenSpec.upto isaBitsSpec)) isaBitsUptoCard

/-- THE SECOND FORM's CARD OF 'hibernaclelaw10.IsaFields'. -/
def isaFieldsUptoCard : Claim7 := { stood := { row := isaFieldsUptoRow, standIns := [], harness := (true, "7a5cb32cc0faabf9e4efeeaba5f7e48709b65fa3ae9bb80a5a6b05a5ef5b0c4b"), looks := false }, kinds := [], alts := [], laidByText := true, laidKinds := [.data, .data, .data, .data], laidTests := true, laidLooks := .later }
def IsaFieldsUptoCardSaid : Prop := Claim7.holds Tryd.pinned (.plain (OpenSpec.upto isaFieldsSpec)) isaFieldsUptoCard
end Rows
end Go.Proofs.YtmafeekhbcpomaaDoor
