/-
  DERIVED. GIVEN WITH THE SEED: THE CARDS: each row of YtjfehloohpnmpaaDoorRows.lean that lists a variable, with what it lists TIED to the program's text (the seventh form; the later family's looks); each row that meets fmt, with fmt's text TOLD by the authors' own Lean function (tested against real Go, not proved from fmt's source: count such statements apart). THE CARD IS WHAT COUNTS. Prove the row's statement (the work); the ties are given (YtjfehloohpnmpaaDoorTie.lean); close each card by the builder's one call (the guide's Derived/Test/ToyasCard.lean, 'card_holds'). Laid BY PROGRAM, IN A SANDBOX (cutbox-door.mjs). By AI agents, Wed Nov 11 2026. No macro, syntax, notation, axiom, sorry.
-/
import Derived.Test.YtjfehloohpnmpaaDoorRows
import GoSem.ClaimSeven
namespace Go.Proofs.YtjfehloohpnmpaaDoor
namespace Rows

/-- THE TIED CARD OF 'hibernaclelaw17.GeomPlans'. -/
def geomPlansCard : Claim7 := { stood := { row := geomPlansRow, standIns := [], harness := (true, "6db07fb0602b3ad81593b60d6ba554a0d3c500650ab19f53046949a79c5571e0"), looks := false }, kinds := [], alts := [], laidByText := true, laidKinds := [.data, .pinned], laidTests := true, laidLooks := .later }
def GeomPlansCardSaid : Prop := Claim7.holds Tryd.pinned (.plain (OpenSpec.ofChange geomPlansSpec)) geomPlansCard

/-- THE TIED CARD OF 'hibernaclelaw17.GeomReads'. -/
def geomReadsCard : Claim7 := { stood := { row := geomReadsRow, standIns := [], harness := (true, "6db07fb0602b3ad81593b60d6ba554a0d3c500650ab19f53046949a79c5571e0"), looks := false }, kinds := [], alts := [], laidByText := true, laidKinds := [.data, .pinned], laidTests := true, laidLooks := .later }
def GeomReadsCardSaid : Prop := Claim7.holds Tryd.pinned (.plain (OpenSpec.ofChange geomReadsSpec)) geomReadsCard

/-- THE TIED CARD OF 'hibernaclelaw17.GeomTakes'. -/
def geomTakesCard : Claim7 := { stood := { row := geomTakesRow, standIns := [], harness := (true, "6db07fb0602b3ad81593b60d6ba554a0d3c500650ab19f53046949a79c5571e0"), looks := false }, kinds := [], alts := [], laidByText := true, laidKinds := [.data, .pinned], laidTests := true, laidLooks := .later }
def GeomTakesCardSaid : Prop := Claim7.holds Tryd.pinned (.plain (OpenSpec.ofChange geomTakesSpec)) geomTakesCard

/-- THE TIED CARD OF 'hibernaclelaw17.GeomApart'. -/
def geomApartCard : Claim7 := { stood := { row := geomApartRow, standIns := [], harness := (true, "6db07fb0602b3ad81593b60d6ba554a0d3c500650ab19f53046949a79c5571e0"), looks := false }, kinds := [], alts := [], laidByText := true, laidKinds := [.data, .pinned], laidTests := true, laidLooks := .later }
def GeomApartCardSaid : Prop := Claim7.holds Tryd.pinned (.plain (OpenSpec.ofChange geomApartSpec)) geomApartCard

/-- THE SECOND FORM's CARD OF 'hibernaclelaw17.GeomPlans'. -/
def geomPlansUptoCard : Claim7 := { stood := { row := geomPlansUptoRow, standIns := [], harness := (true, "6db07fb0602b3ad81593b60d6ba554a0d3c500650ab19f53046949a79c5571e0"), looks := false }, kinds := [], alts := [], laidByText := true, laidKinds := [.data, .pinned], laidTests := true, laidLooks := .later }
def GeomPlansUptoCardSaid : Prop := Claim7.holds Tryd.pinned (.plain (OpenSpec.upto geomPlansSpec)) geomPlansUptoCard

/-- THE SECOND FORM's CARD OF 'hibernaclelaw17.GeomReads'. -/
def geomReadsUptoCard : Claim7 := { stood := { row := geomReadsUptoRow, standIns := [], harness := (true, "6db07fb0602b3ad81593b60d6ba554a0d3c500650ab19f53046949a79c5571e0"), looks := false }, kinds := [], alts := [], laidByText := true, laidKinds := [.data, .pinned], laidTests := true, laidLooks := .later }
def GeomReadsUptoCardSaid : Prop := Claim7.holds Tryd.pinned (.plain (OpenSpec.upto geomReadsSpec)) geomReadsUptoCard

/-- THE SECOND FORM's CARD OF 'hibernaclelaw17.GeomTakes'. -/
def geomTakesUptoCard : Claim7 := { stood := { row := geomTakesUptoRow, standIns := [], harness := (true, "6db07fb0602b3ad81593b60d6ba554a0d3c500650ab19f53046949a79c5571e0"), looks := false }, kinds := [], alts := [], laidByText := true, laidKinds := [.data, .pinned], laidTests := true, laidLooks := .later }
def GeomTakesUptoCardSaid : Prop := Claim7.holds Tryd.pinned (.plain (OpenSpec.upto geomTakesSpec)) geomTakesUptoCard

/-- THE SECOND FORM's CARD OF 'hibernaclelaw17.GeomApart'. -/
def geomApartUptoCard : Claim7 := { stood := { row := geomApartUptoRow, standIns := [], harness := (true, "6db07fb0602b3ad81593b60d6ba554a0d3c500650ab19f53046949a79c5571e0"), looks := false }, kinds := [], alts := [], laidByText := true, laidKinds := [.data, .pinned], laidTests := true, laidLooks := .later }
def GeomApartUptoCardSaid : Prop := Claim7.holds Tryd.pinned (.plain (OpenSpec.upto geomApartSpec)) geomApartUptoCard
end Rows
end Go.Proofs.YtjfehloohpnmpaaDoor
