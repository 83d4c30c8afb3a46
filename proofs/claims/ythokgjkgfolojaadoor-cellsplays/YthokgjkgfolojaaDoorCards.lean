/-
  DERIVED. GIVEN WITH THE SEED: THE CARDS: each row of YthokgjkgfolojaaDoorRows.lean that lists a variable, with what it lists TIED to the program's text (the seventh form; the later family's looks); each row that meets fmt, with fmt's text TOLD by the authors' own Lean function (tested against real Go, not proved from fmt's source: count such statements apart). THE CARD IS WHAT COUNTS. Prove the row's statement (the work); the ties are given (YthokgjkgfolojaaDoorTie.lean); close each card by the builder's one call (the guide's Derived/Test/ToyasCard.lean, 'card_holds'). Laid BY PROGRAM, IN A SANDBOX (cutbox-door.mjs). By AI agents, Wed Nov 11 2026. No macro, syntax, notation, axiom, sorry.
-/
import Derived.Test.YthokgjkgfolojaaDoorRows
import GoSem.ClaimSeven
namespace Go.Proofs.YthokgjkgfolojaaDoor
namespace Rows

/-- THE TIED CARD OF 'pinnacelaw16.CellsOf'. -/
def cellsOfCard : Claim7 := { stood := { row := cellsOfRow, standIns := [], harness := (true, "57f2681be1c13929572066f5f1e9bb9775a07279498cf8f2992ae601d68506ba"), looks := false }, kinds := [], alts := [], laidByText := true, laidKinds := [.data], laidTests := true, laidLooks := .later }
def CellsOfCardSaid : Prop := Claim7.holds Tryd.pinned (.plain (OpenSpec.ofChange cellsOfSpec)) cellsOfCard

/-- THE TIED CARD OF 'pinnacelaw16.CellsPlays'. -/
def cellsPlaysCard : Claim7 := { stood := { row := cellsPlaysRow, standIns := [], harness := (true, "57f2681be1c13929572066f5f1e9bb9775a07279498cf8f2992ae601d68506ba"), looks := false }, kinds := [], alts := [], laidByText := true, laidKinds := [.data], laidTests := true, laidLooks := .later }
def CellsPlaysCardSaid : Prop := Claim7.holds Tryd.pinned (.plain (OpenSpec.ofChange cellsPlaysSpec)) cellsPlaysCard

/-- THE TIED CARD OF 'pinnacelaw16.CellsParts'. -/
def cellsPartsCard : Claim7 := { stood := { row := cellsPartsRow, standIns := [], harness := (true, "57f2681be1c13929572066f5f1e9bb9775a07279498cf8f2992ae601d68506ba"), looks := false }, kinds := [], alts := [], laidByText := true, laidKinds := [.data], laidTests := true, laidLooks := .later }
def CellsPartsCardSaid : Prop := Claim7.holds Tryd.pinned (.plain (OpenSpec.ofChange cellsPartsSpec)) cellsPartsCard

/-- THE TIED CARD OF 'pinnacelaw16.CellsStill'. -/
def cellsStillCard : Claim7 := { stood := { row := cellsStillRow, standIns := [], harness := (true, "57f2681be1c13929572066f5f1e9bb9775a07279498cf8f2992ae601d68506ba"), looks := false }, kinds := [], alts := [], laidByText := true, laidKinds := [.data], laidTests := true, laidLooks := .later }
def CellsStillCardSaid : Prop := Claim7.holds Tryd.pinned (.plain (OpenSpec.ofChange cellsStillSpec)) cellsStillCard

/-- THE TIED CARD OF 'pinnacelaw16.CellsOne'. -/
def cellsOneCard : Claim7 := { stood := { row := cellsOneRow, standIns := [], harness := (true, "57f2681be1c13929572066f5f1e9bb9775a07279498cf8f2992ae601d68506ba"), looks := false }, kinds := [], alts := [], laidByText := true, laidKinds := [.data], laidTests := true, laidLooks := .later }
def CellsOneCardSaid : Prop := Claim7.holds Tryd.pinned (.plain (OpenSpec.ofChange cellsOneSpec)) cellsOneCard

/-- THE SECOND FORM's CARD OF 'pinnacelaw16.CellsOf'. -/
def cellsOfUptoCard : Claim7 := { stood := { row := cellsOfUptoRow, standIns := [], harness := (true, "57f2681be1c13929572066f5f1e9bb9775a07279498cf8f2992ae601d68506ba"), looks := false }, kinds := [], alts := [], laidByText := true, laidKinds := [.data], laidTests := true, laidLooks := .later }
def CellsOfUptoCardSaid : Prop := Claim7.holds Tryd.pinned (.plain (OpenSpec.upto cellsOfSpec)) cellsOfUptoCard

/-- THE SECOND FORM's CARD OF 'pinnacelaw16.CellsPlays'. -/
def cellsPlaysUptoCard : Claim7 := { stood := { row := cellsPlaysUptoRow, standIns := [], harness := (true, "57f2681be1c13929572066f5f1e9bb9775a07279498cf8f2992ae601d68506ba"), looks := false }, kinds := [], alts := [], laidByText := true, laidKinds := [.data], laidTests := true, laidLooks := .later }
def CellsPlaysUptoCardSaid : Prop := Claim7.holds Tryd.pinned (.plain (OpenSpec.upto cellsPlaysSpec)) cellsPlaysUptoCard

/-- THE SECOND FORM's CARD OF 'pinnacelaw16.CellsParts'. -/
def cellsPartsUptoCard : Claim7 := { stood := { row := cellsPartsUptoRow, standIns := [], harness := (true, "57f2681be1c13929572066f5f1e9bb9775a07279498cf8f2992ae601d68506ba"), looks := false }, kinds := [], alts := [], laidByText := true, laidKinds := [.data], laidTests := true, laidLooks := .later }
def CellsPartsUptoCardSaid : Prop := Claim7.holds Tryd.pinned (.plain (OpenSpec.upto cellsPartsSpec)) cellsPartsUptoCard

/-- THE SECOND FORM's CARD OF 'pinnacelaw16.CellsStill'. -/
def cellsStillUptoCard : Claim7 := { stood := { row := cellsStillUptoRow, standIns := [], harness := (true, "57f2681be1c13929572066f5f1e9bb9775a07279498cf8f2992ae601d68506ba"), looks := false }, kinds := [], alts := [], laidByText := true, laidKinds := [.data], laidTests := true, laidLooks := .later }
def CellsStillUptoCardSaid : Prop := Claim7.holds Tryd.pinned (.plain (OpenSpec.upto cellsStillSpec)) cellsStillUptoCard

/-- THE SECOND FORM's CARD OF 'pinnacelaw16.CellsOne'. -/
def cellsOneUptoCard : Claim7 := { stood := { row := cellsOneUptoRow, standIns := [], harness := (true, "57f2681be1c13929572066f5f1e9bb9775a07279498cf8f2992ae601d68506ba"), looks := false }, kinds := [], alts := [], laidByText := true, laidKinds := [.data], laidTests := true, laidLooks := .later }
def CellsOneUptoCardSaid : Prop := Claim7.holds Tryd.pinned (.plain (OpenSpec.upto cellsOneSpec)) cellsOneUptoCard
end Rows
end Go.Proofs.YthokgjkgfolojaaDoor
