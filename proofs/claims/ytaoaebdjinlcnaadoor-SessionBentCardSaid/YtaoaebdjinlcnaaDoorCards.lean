/-
  DERIVED. GIVEN WITH THE SEED: THE CARDS: each row of YtaoaebdjinlcnaaDoorRows.lean that lists a variable, with what it lists TIED to the program's text (the seventh form; the later family's looks); each row that meets fmt, with fmt's text TOLD by the authors' own Lean function (tested against real Go, not proved from fmt's source: count such statements apart). THE CARD IS WHAT COUNTS. Prove the row's statement (the work); the ties are given (YtaoaebdjinlcnaaDoorTie.lean); close each card by the builder's one call (the guide's Derived/Test/ToyasCard.lean, 'card_holds'). Laid BY PROGRAM, IN A SANDBOX (cutbox-door.mjs). By AI agents, Wed Nov 11 2026. No macro, syntax, notation, axiom, sorry.
-/
import Derived.Test.YtaoaebdjinlcnaaDoorRows
import GoSem.ClaimSeven
namespace Go.Proofs.YtaoaebdjinlcnaaDoor
namespace Rows

/-- THE TIED CARD OF 'hibernaclelaw43.SessionSends'. -/
def sessionSendsCard : Claim7 := { stood := { row := sessionSendsRow, standIns := [], harness := (true, "eaeb0f33300ad5fcd8698f0d591bc69b989f6803335f5cbbe7b02a2c5f605af0"), looks := false }, kinds := [], alts := [], laidByText := true, laidKinds := [.data, .data], laidTests := true, laidLooks := .later }
def SessionSendsCardSaid : Prop := Claim7.holds Tryd.pinned (.plain (OpenSpec.ofChange sessionSendsSpec)) sessionSendsCard

/-- THE TIED CARD OF 'hibernaclelaw43.SessionTakes'. -/
def sessionTakesCard : Claim7 := { stood := { row := sessionTakesRow, standIns := [], harness := (true, "eaeb0f33300ad5fcd8698f0d591bc69b989f6803335f5cbbe7b02a2c5f605af0"), looks := false }, kinds := [], alts := [], laidByText := true, laidKinds := [.data, .data], laidTests := true, laidLooks := .later }
def SessionTakesCardSaid : Prop := Claim7.holds Tryd.pinned (.plain (OpenSpec.ofChange sessionTakesSpec)) sessionTakesCard

/-- THE TIED CARD OF 'hibernaclelaw43.SessionGoes'. -/
def sessionGoesCard : Claim7 := { stood := { row := sessionGoesRow, standIns := [], harness := (true, "eaeb0f33300ad5fcd8698f0d591bc69b989f6803335f5cbbe7b02a2c5f605af0"), looks := false }, kinds := [], alts := [], laidByText := true, laidKinds := [.data, .data], laidTests := true, laidLooks := .later }
def SessionGoesCardSaid : Prop := Claim7.holds Tryd.pinned (.plain (OpenSpec.ofChange sessionGoesSpec)) sessionGoesCard

/-- THE TIED CARD OF 'hibernaclelaw43.SessionOnce'. -/
def sessionOnceCard : Claim7 := { stood := { row := sessionOnceRow, standIns := [], harness := (true, "eaeb0f33300ad5fcd8698f0d591bc69b989f6803335f5cbbe7b02a2c5f605af0"), looks := false }, kinds := [], alts := [], laidByText := true, laidKinds := [.data, .data], laidTests := true, laidLooks := .later }
def SessionOnceCardSaid : Prop := Claim7.holds Tryd.pinned (.plain (OpenSpec.ofChange sessionOnceSpec)) sessionOnceCard

/-- THE TIED CARD OF 'hibernaclelaw43.SessionBent'. -/
def sessionBentCard : Claim7 := { stood := { row := sessionBentRow, standIns := [], harness := (true, "eaeb0f33300ad5fcd8698f0d591bc69b989f6803335f5cbbe7b02a2c5f605af0"), looks := false }, kinds := [], alts := [], laidByText := true, laidKinds := [.data, .data], laidTests := true, laidLooks := .later }
def SessionBentCardSaid : Prop := Claim7.holds Tryd.pinned (.plain (OpenSpec.ofChange sessionBentSpec)) sessionBentCard

/-- THE TIED CARD OF 'hibernaclelaw43.SessionFar'. -/
def sessionFarCard : Claim7 := { stood := { row := sessionFarRow, standIns := [], harness := (true, "eaeb0f33300ad5fcd8698f0d591bc69b989f6803335f5cbbe7b02a2c5f605af0"), looks := false }, kinds := [], alts := [], laidByText := true, laidKinds := [.data, .data], laidTests := true, laidLooks := .later }
def SessionFarCardSaid : Prop := Claim7.holds Tryd.pinned (.plain (OpenSpec.ofChange sessionFarSpec)) sessionFarCard

/-- THE TIED CARD OF 'hibernaclelaw43.SessionOther'. -/
def sessionOtherCard : Claim7 := { stood := { row := sessionOtherRow, standIns := [], harness := (true, "eaeb0f33300ad5fcd8698f0d591bc69b989f6803335f5cbbe7b02a2c5f605af0"), looks := false }, kinds := [], alts := [], laidByText := true, laidKinds := [.data, .data], laidTests := true, laidLooks := .later }
def SessionOtherCardSaid : Prop := Claim7.holds Tryd.pinned (.plain (OpenSpec.ofChange sessionOtherSpec)) sessionOtherCard

/-- THE TIED CARD OF 'hibernaclelaw43.SessionAnswers'. -/
def sessionAnswersCard : Claim7 := { stood := { row := sessionAnswersRow, standIns := [], harness := (true, "eaeb0f33300ad5fcd8698f0d591bc69b989f6803335f5cbbe7b02a2c5f605af0"), looks := false }, kinds := [], alts := [], laidByText := true, laidKinds := [.data, .data], laidTests := true, laidLooks := .later }
def SessionAnswersCardSaid : Prop := Claim7.holds Tryd.pinned (.plain (OpenSpec.ofChange sessionAnswersSpec)) sessionAnswersCard

/-- THE SECOND FORM's CARD OF 'hibernaclelaw43.SessionSends'. -/
def sessionSendsUptoCard : Claim7 := { stood := { row := sessionSendsUptoRow, standIns := [], harness := (true, "eaeb0f33300ad5fcd8698f0d591bc69b989f6803335f5cbbe7b02a2c5f605af0"), looks := false }, kinds := [], alts := [], laidByText := true, laidKinds := [.data, .data], laidTests := true, laidLooks := .later }
def SessionSendsUptoCardSaid : Prop := Claim7.holds Tryd.pinned (.plain (OpenSpec.upto sessionSendsSpec)) sessionSendsUptoCard

/-- THE SECOND FORM's CARD OF 'hibernaclelaw43.SessionTakes'. -/
def sessionTakesUptoCard : Claim7 := { stood := { row := sessionTakesUptoRow, standIns := [], harness := (true, "eaeb0f33300ad5fcd8698f0d591bc69b989f6803335f5cbbe7b02a2c5f605af0"), looks := false }, kinds := [], alts := [], laidByText := true, laidKinds := [.data, .data], laidTests := true, laidLooks := .later }
def SessionTakesUptoCardSaid : Prop := Claim7.holds Tryd.pinned (.plain (OpenSpec.upto sessionTakesSpec)) sessionTakesUptoCard

/-- THE SECOND FORM's CARD OF 'hibernaclelaw43.SessionGoes'. -/
def sessionGoesUptoCard : Claim7 := { stood := { row := sessionGoesUptoRow, standIns := [], harness := (true, "eaeb0f33300ad5fcd8698f0d591bc69b989f6803335f5cbbe7b02a2c5f605af0"), looks := false }, kinds := [], alts := [], laidByText := true, laidKinds := [.data, .data], laidTests := true, laidLooks := .later }
def SessionGoesUptoCardSaid : Prop := Claim7.holds Tryd.pinned (.plain (OpenSpec.upto sessionGoesSpec)) sessionGoesUptoCard

/-- THE SECOND FORM's CARD OF 'hibernaclelaw43.SessionOnce'. -/
def sessionOnceUptoCard : Claim7 := { stood := { row := sessionOnceUptoRow, standIns := [], harness := (true, "eaeb0f33300ad5fcd8698f0d591bc69b989f6803335f5cbbe7b02a2c5f605af0"), looks := false }, kinds := [], alts := [], laidByText := true, laidKinds := [.data, .data], laidTests := true, laidLooks := .later }
def SessionOnceUptoCardSaid : Prop := Claim7.holds Tryd.pinned (.plain (OpenSpec.upto sessionOnceSpec)) sessionOnceUptoCard

/-- THE SECOND FORM's CARD OF 'hibernaclelaw43.SessionBent'. -/
def sessionBentUptoCard : Claim7 := { stood := { row := sessionBentUptoRow, standIns := [], harness := (true, "eaeb0f33300ad5fcd8698f0d591bc69b989f6803335f5cbbe7b02a2c5f605af0"), looks := false }, kinds := [], alts := [], laidByText := true, laidKinds := [.data, .data], laidTests := true, laidLooks := .later }
def SessionBentUptoCardSaid : Prop := Claim7.holds Tryd.pinned (.plain (OpenSpec.upto sessionBentSpec)) sessionBentUptoCard

/-- THE SECOND FORM's CARD OF 'hibernaclelaw43.SessionFar'. -/
def sessionFarUptoCard : Claim7 := { stood := { row := sessionFarUptoRow, standIns := [], harness := (true, "eaeb0f33300ad5fcd8698f0d591bc69b989f6803335f5cbbe7b02a2c5f605af0"), looks := false }, kinds := [], alts := [], laidByText := true, laidKinds := [.data, .data], laidTests := true, laidLooks := .later }
def SessionFarUptoCardSaid : Prop := Claim7.holds Tryd.pinned (.plain (OpenSpec.upto sessionFarSpec)) sessionFarUptoCard

/-- THE SECOND FORM's CARD OF 'hibernaclelaw43.SessionOther'. -/
def sessionOtherUptoCard : Claim7 := { stood := { row := sessionOtherUptoRow, standIns := [], harness := (true, "eaeb0f33300ad5fcd8698f0d591bc69b989f6803335f5cbbe7b02a2c5f605af0"), looks := false }, kinds := [], alts := [], laidByText := true, laidKinds := [.data, .data], laidTests := true, laidLooks := .later }
def SessionOtherUptoCardSaid : Prop := Claim7.holds Tryd.pinned (.plain (OpenSpec.upto sessionOtherSpec)) sessionOtherUptoCard

/-- THE SECOND FORM's CARD OF 'hibernaclelaw43.SessionAnswers'. -/
def sessionAnswersUptoCard : Claim7 := { stood := { row := sessionAnswersUptoRow, standIns := [], harness := (true, "eaeb0f33300ad5fcd8698f0d591bc69b989f6803335f5cbbe7b02a2c5f605af0"), looks := false }, kinds := [], alts := [], laidByText := true, laidKinds := [.data, .data], laidTests := true, laidLooks := .later }
def SessionAnswersUptoCardSaid : Prop := Claim7.holds Tryd.pinned (.plain (OpenSpec.upto sessionAnswersSpec)) sessionAnswersUptoCard
end Rows
end Go.Proofs.YtaoaebdjinlcnaaDoor
