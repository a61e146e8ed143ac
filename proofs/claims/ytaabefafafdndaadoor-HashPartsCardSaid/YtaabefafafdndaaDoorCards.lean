/-
  DERIVED. GIVEN WITH THE SEED: THE CARDS: each row of YtaabefafafdndaaDoorRows.lean that lists a variable, with what it lists TIED to the program's text (the seventh form; the later family's looks); each row that meets fmt, with fmt's text TOLD by the authors' own Lean function (tested against real Go, not proved from fmt's source: count such statements apart). THE CARD IS WHAT COUNTS. Prove the row's statement (the work); the ties are given (YtaabefafafdndaaDoorTie.lean); close each card by the builder's one call (the guide's Derived/Test/ToyasCard.lean, 'card_holds'). Laid BY PROGRAM, IN A SANDBOX (cutbox-door.mjs). By AI agents, Wed Nov 11 2026. No macro, syntax, notation, axiom, sorry.
-/
import Derived.Test.YtaabefafafdndaaDoorRows
import GoSem.ClaimSeven
namespace Go.Proofs.YtaabefafafdndaaDoor
namespace Rows

/-- THE TIED CARD OF 'hibernaclelaw02.HashSums'. -/
def hashSumsCard : Claim7 := { stood := { row := hashSumsRow, standIns := [], harness := (true, "5305a15eb5e94f4f02fc20840032b734010057b7cc83ea49ed95da8dbd7313be"), looks := false }, kinds := [], alts := [], laidByText := true, laidKinds := [.data, .data], laidTests := true, laidLooks := .later }
def HashSumsCardSaid : Prop := Claim7.holds Tryd.pinned (.plain (OpenSpec.ofChange hashSumsSpec)) hashSumsCard

/-- THE TIED CARD OF 'hibernaclelaw02.HashKeyed'. -/
def hashKeyedCard : Claim7 := { stood := { row := hashKeyedRow, standIns := [], harness := (true, "5305a15eb5e94f4f02fc20840032b734010057b7cc83ea49ed95da8dbd7313be"), looks := false }, kinds := [], alts := [], laidByText := true, laidKinds := [.data, .data], laidTests := true, laidLooks := .later }
def HashKeyedCardSaid : Prop := Claim7.holds Tryd.pinned (.plain (OpenSpec.ofChange hashKeyedSpec)) hashKeyedCard

/-- THE TIED CARD OF 'hibernaclelaw02.HashParts'. -/
def hashPartsCard : Claim7 := { stood := { row := hashPartsRow, standIns := [], harness := (true, "5305a15eb5e94f4f02fc20840032b734010057b7cc83ea49ed95da8dbd7313be"), looks := false }, kinds := [], alts := [], laidByText := true, laidKinds := [.data, .data], laidTests := true, laidLooks := .later }
def HashPartsCardSaid : Prop := Claim7.holds Tryd.pinned (.plain (OpenSpec.ofChange hashPartsSpec)) hashPartsCard

/-- THE TIED CARD OF 'hibernaclelaw02.HashTexts'. -/
def hashTextsCard : Claim7 := { stood := { row := hashTextsRow, standIns := [], harness := (true, "5305a15eb5e94f4f02fc20840032b734010057b7cc83ea49ed95da8dbd7313be"), looks := false }, kinds := [], alts := [], laidByText := true, laidKinds := [.data, .data], laidTests := true, laidLooks := .later }
def HashTextsCardSaid : Prop := Claim7.holds Tryd.pinned (.plain (OpenSpec.ofChange hashTextsSpec)) hashTextsCard

/-- THE TIED CARD OF 'hibernaclelaw02.HashOf'. -/
def hashOfCard : Claim7 := { stood := { row := hashOfRow, standIns := [], harness := (true, "5305a15eb5e94f4f02fc20840032b734010057b7cc83ea49ed95da8dbd7313be"), looks := false }, kinds := [], alts := [], laidByText := true, laidKinds := [.data, .data], laidTests := true, laidLooks := .later }
def HashOfCardSaid : Prop := Claim7.holds Tryd.pinned (.plain (OpenSpec.ofChange hashOfSpec)) hashOfCard

/-- THE TIED CARD OF 'hibernaclelaw02.HashFilled'. -/
def hashFilledCard : Claim7 := { stood := { row := hashFilledRow, standIns := [], harness := (true, "5305a15eb5e94f4f02fc20840032b734010057b7cc83ea49ed95da8dbd7313be"), looks := false }, kinds := [], alts := [], laidByText := true, laidKinds := [.data, .data], laidTests := true, laidLooks := .later }
def HashFilledCardSaid : Prop := Claim7.holds Tryd.pinned (.plain (OpenSpec.ofChange hashFilledSpec)) hashFilledCard

/-- THE SECOND FORM's CARD OF 'hibernaclelaw02.HashSums'. -/
def hashSumsUptoCard : Claim7 := { stood := { row := hashSumsUptoRow, standIns := [], harness := (true, "5305a15eb5e94f4f02fc20840032b734010057b7cc83ea49ed95da8dbd7313be"), looks := false }, kinds := [], alts := [], laidByText := true, laidKinds := [.data, .data], laidTests := true, laidLooks := .later }
def HashSumsUptoCardSaid : Prop := Claim7.holds Tryd.pinned (.plain (OpenSpec.upto hashSumsSpec)) hashSumsUptoCard

/-- THE SECOND FORM's CARD OF 'hibernaclelaw02.HashKeyed'. -/
def hashKeyedUptoCard : Claim7 := { stood := { row := hashKeyedUptoRow, standIns := [], harness := (true, "5305a15eb5e94f4f02fc20840032b734010057b7cc83ea49ed95da8dbd7313be"), looks := false }, kinds := [], alts := [], laidByText := true, laidKinds := [.data, .data], laidTests := true, laidLooks := .later }
def HashKeyedUptoCardSaid : Prop := Claim7.holds Tryd.pinned (.plain (OpenSpec.upto hashKeyedSpec)) hashKeyedUptoCard

/-- THE SECOND FORM's CARD OF 'hibernaclelaw02.HashParts'. -/
def hashPartsUptoCard : Claim7 := { stood := { row := hashPartsUptoRow, standIns := [], harness := (true, "5305a15eb5e94f4f02fc20840032b734010057b7cc83ea49ed95da8dbd7313be"), looks := false }, kinds := [], alts := [], laidByText := true, laidKinds := [.data, .data], laidTests := true, laidLooks := .later }
def HashPartsUptoCardSaid : Prop := Claim7.holds Tryd.pinned (.plain (OpenSpec.upto hashPartsSpec)) hashPartsUptoCard

/-- THE SECOND FORM's CARD OF 'hibernaclelaw02.HashTexts'. -/
def hashTextsUptoCard : Claim7 := { stood := { row := hashTextsUptoRow, standIns := [], harness := (true, "5305a15eb5e94f4f02fc20840032b734010057b7cc83ea49ed95da8dbd7313be"), looks := false }, kinds := [], alts := [], laidByText := true, laidKinds := [.data, .data], laidTests := true, laidLooks := .later }
def HashTextsUptoCardSaid : Prop := Claim7.holds Tryd.pinned (.plain (OpenSpec.upto hashTextsSpec)) hashTextsUptoCard

/-- THE SECOND FORM's CARD OF 'hibernaclelaw02.HashOf'. -/
def hashOfUptoCard : Claim7 := { stood := { row := hashOfUptoRow, standIns := [], harness := (true, "5305a15eb5e94f4f02fc20840032b734010057b7cc83ea49ed95da8dbd7313be"), looks := false }, kinds := [], alts := [], laidByText := true, laidKinds := [.data, .data], laidTests := true, laidLooks := .later }
def HashOfUptoCardSaid : Prop := Claim7.holds Tryd.pinned (.plain (OpenSpec.upto hashOfSpec)) hashOfUptoCard

/-- THE SECOND FORM's CARD OF 'hibernaclelaw02.HashFilled'. -/
def hashFilledUptoCard : Claim7 := { stood := { row := hashFilledUptoRow, standIns := [], harness := (true, "5305a15eb5e94f4f02fc20840032b734010057b7cc83ea49ed95da8dbd7313be"), looks := false }, kinds := [], alts := [], laidByText := true, laidKinds := [.data, .data], laidTests := true, laidLooks := .later }
def HashFilledUptoCardSaid : Prop := Claim7.holds Tryd.pinned (.plain (OpenSpec.upto hashFilledSpec)) hashFilledUptoCard
end Rows
end Go.Proofs.YtaabefafafdndaaDoor
