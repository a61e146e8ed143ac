/-
  DERIVED. GIVEN WITH THE SEED: THE CARDS: each row of YtambgmjiafcokaaDoorRows.lean that lists a variable, with what it lists TIED to the program's text (the seventh form; the later family's looks); each row that meets fmt, with fmt's text TOLD by the authors' own Lean function (tested against real Go, not proved from fmt's source: count such statements apart). THE CARD IS WHAT COUNTS. Prove the row's statement (the work); the ties are given (YtambgmjiafcokaaDoorTie.lean); close each card by the builder's one call (the guide's Derived/Test/ToyasCard.lean, 'card_holds'). Laid BY PROGRAM, IN A SANDBOX (cutbox-door.mjs). By AI agents, Wed Nov 11 2026. No macro, syntax, notation, axiom, sorry.
-/
import Derived.Test.YtambgmjiafcokaaDoorRows
import GoSem.ClaimSeven
namespace Go.Proofs.YtambgmjiafcokaaDoor
namespace Rows

/-- THE TIED CARD OF 'hibernaclelaw18.InodeGets'. -/
def inodeGetsCard : Claim7 := { stood := { row := inodeGetsRow, standIns := [], harness := (true, "bf65c872773822550139d287de7c0d1fdb0a336c3e5c1a9b09d97baf1a7b87d6"), looks := false }, kinds := [], alts := [], laidByText := true, laidKinds := [.data, .pinned], laidTests := true, laidLooks := .later }
def InodeGetsCardSaid : Prop := Claim7.holds Tryd.pinned (.plain (OpenSpec.ofChange inodeGetsSpec)) inodeGetsCard

/-- THE TIED CARD OF 'hibernaclelaw18.InodePuts'. -/
def inodePutsCard : Claim7 := { stood := { row := inodePutsRow, standIns := [], harness := (true, "bf65c872773822550139d287de7c0d1fdb0a336c3e5c1a9b09d97baf1a7b87d6"), looks := false }, kinds := [], alts := [], laidByText := true, laidKinds := [.data, .pinned], laidTests := true, laidLooks := .later }
def InodePutsCardSaid : Prop := Claim7.holds Tryd.pinned (.plain (OpenSpec.ofChange inodePutsSpec)) inodePutsCard

/-- THE TIED CARD OF 'hibernaclelaw18.InodeNews'. -/
def inodeNewsCard : Claim7 := { stood := { row := inodeNewsRow, standIns := [], harness := (true, "bf65c872773822550139d287de7c0d1fdb0a336c3e5c1a9b09d97baf1a7b87d6"), looks := false }, kinds := [], alts := [], laidByText := true, laidKinds := [.data, .pinned], laidTests := true, laidLooks := .later }
def InodeNewsCardSaid : Prop := Claim7.holds Tryd.pinned (.plain (OpenSpec.ofChange inodeNewsSpec)) inodeNewsCard

/-- THE TIED CARD OF 'hibernaclelaw18.InodeBack'. -/
def inodeBackCard : Claim7 := { stood := { row := inodeBackRow, standIns := [], harness := (true, "bf65c872773822550139d287de7c0d1fdb0a336c3e5c1a9b09d97baf1a7b87d6"), looks := false }, kinds := [], alts := [], laidByText := true, laidKinds := [.data, .pinned], laidTests := true, laidLooks := .later }
def InodeBackCardSaid : Prop := Claim7.holds Tryd.pinned (.plain (OpenSpec.ofChange inodeBackSpec)) inodeBackCard

/-- THE TIED CARD OF 'hibernaclelaw18.InodeTwice'. -/
def inodeTwiceCard : Claim7 := { stood := { row := inodeTwiceRow, standIns := [], harness := (true, "bf65c872773822550139d287de7c0d1fdb0a336c3e5c1a9b09d97baf1a7b87d6"), looks := false }, kinds := [], alts := [], laidByText := true, laidKinds := [.data, .pinned], laidTests := true, laidLooks := .later }
def InodeTwiceCardSaid : Prop := Claim7.holds Tryd.pinned (.plain (OpenSpec.ofChange inodeTwiceSpec)) inodeTwiceCard

/-- THE TIED CARD OF 'hibernaclelaw18.InodeFull'. -/
def inodeFullCard : Claim7 := { stood := { row := inodeFullRow, standIns := [], harness := (true, "bf65c872773822550139d287de7c0d1fdb0a336c3e5c1a9b09d97baf1a7b87d6"), looks := false }, kinds := [], alts := [], laidByText := true, laidKinds := [.data, .pinned], laidTests := true, laidLooks := .later }
def InodeFullCardSaid : Prop := Claim7.holds Tryd.pinned (.plain (OpenSpec.ofChange inodeFullSpec)) inodeFullCard

/-- THE TIED CARD OF 'hibernaclelaw18.InodeCounts'. -/
def inodeCountsCard : Claim7 := { stood := { row := inodeCountsRow, standIns := [], harness := (true, "bf65c872773822550139d287de7c0d1fdb0a336c3e5c1a9b09d97baf1a7b87d6"), looks := false }, kinds := [], alts := [], laidByText := true, laidKinds := [.data, .pinned], laidTests := true, laidLooks := .later }
def InodeCountsCardSaid : Prop := Claim7.holds Tryd.pinned (.plain (OpenSpec.ofChange inodeCountsSpec)) inodeCountsCard

/-- THE SECOND FORM's CARD OF 'hibernaclelaw18.InodeGets'. -/
def inodeGetsUptoCard : Claim7 := { stood := { row := inodeGetsUptoRow, standIns := [], harness := (true, "bf65c872773822550139d287de7c0d1fdb0a336c3e5c1a9b09d97baf1a7b87d6"), looks := false }, kinds := [], alts := [], laidByText := true, laidKinds := [.data, .pinned], laidTests := true, laidLooks := .later }
def InodeGetsUptoCardSaid : Prop := Claim7.holds Tryd.pinned (.plain (OpenSpec.upto inodeGetsSpec)) inodeGetsUptoCard

/-- THE SECOND FORM's CARD OF 'hibernaclelaw18.InodePuts'. -/
def inodePutsUptoCard : Claim7 := { stood := { row := inodePutsUptoRow, standIns := [], harness := (true, "bf65c872773822550139d287de7c0d1fdb0a336c3e5c1a9b09d97baf1a7b87d6"), looks := false }, kinds := [], alts := [], laidByText := true, laidKinds := [.data, .pinned], laidTests := true, laidLooks := .later }
def InodePutsUptoCardSaid : Prop := Claim7.holds Tryd.pinned (.plain (OpenSpec.upto inodePutsSpec)) inodePutsUptoCard

/-- THE SECOND FORM's CARD OF 'hibernaclelaw18.InodeNews'. -/
def inodeNewsUptoCard : Claim7 := { stood := { row := inodeNewsUptoRow, standIns := [], harness := (true, "bf65c872773822550139d287de7c0d1fdb0a336c3e5c1a9b09d97baf1a7b87d6"), looks := false }, kinds := [], alts := [], laidByText := true, laidKinds := [.data, .pinned], laidTests := true, laidLooks := .later }
def InodeNewsUptoCardSaid : Prop := Claim7.holds Tryd.pinned (.plain (OpenSpec.upto inodeNewsSpec)) inodeNewsUptoCard

/-- THE SECOND FORM's CARD OF 'hibernaclelaw18.InodeBack'. -/
def inodeBackUptoCard : Claim7 := { stood := { row := inodeBackUptoRow, standIns := [], harness := (true, "bf65c872773822550139d287de7c0d1fdb0a336c3e5c1a9b09d97baf1a7b87d6"), looks := false }, kinds := [], alts := [], laidByText := true, laidKinds := [.data, .pinned], laidTests := true, laidLooks := .later }
def InodeBackUptoCardSaid : Prop := Claim7.holds Tryd.pinned (.plain (OpenSpec.upto inodeBackSpec)) inodeBackUptoCard

/-- THE SECOND FORM's CARD OF 'hibernaclelaw18.InodeTwice'. -/
def inodeTwiceUptoCard : Claim7 := { stood := { row := inodeTwiceUptoRow, standIns := [], harness := (true, "bf65c872773822550139d287de7c0d1fdb0a336c3e5c1a9b09d97baf1a7b87d6"), looks := false }, kinds := [], alts := [], laidByText := true, laidKinds := [.data, .pinned], laidTests := true, laidLooks := .later }
def InodeTwiceUptoCardSaid : Prop := Claim7.holds Tryd.pinned (.plain (OpenSpec.upto inodeTwiceSpec)) inodeTwiceUptoCard

/-- THE SECOND FORM's CARD OF 'hibernaclelaw18.InodeFull'. -/
def inodeFullUptoCard : Claim7 := { stood := { row := inodeFullUptoRow, standIns := [], harness := (true, "bf65c872773822550139d287de7c0d1fdb0a336c3e5c1a9b09d97baf1a7b87d6"), looks := false }, kinds := [], alts := [], laidByText := true, laidKinds := [.data, .pinned], laidTests := true, laidLooks := .later }
def InodeFullUptoCardSaid : Prop := Claim7.holds Tryd.pinned (.plain (OpenSpec.upto inodeFullSpec)) inodeFullUptoCard

/-- THE SECOND FORM's CARD OF 'hibernaclelaw18.InodeCounts'. -/
def inodeCountsUptoCard : Claim7 := { stood := { row := inodeCountsUptoRow, standIns := [], harness := (true, "bf65c872773822550139d287de7c0d1fdb0a336c3e5c1a9b09d97baf1a7b87d6"), looks := false }, kinds := [], alts := [], laidByText := true, laidKinds := [.data, .pinned], laidTests := true, laidLooks := .later }
def InodeCountsUptoCardSaid : Prop := Claim7.holds Tryd.pinned (.plain (OpenSpec.upto inodeCountsSpec)) inodeCountsUptoCard
end Rows
end Go.Proofs.YtambgmjiafcokaaDoor
