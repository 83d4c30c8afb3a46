/-
  DERIVED. GIVEN WITH THE SEED: THE CARDS: each row of YthokgjkgfolojabDoorRows.lean that lists a variable, with what it lists TIED to the program's text (the seventh form; the later family's looks); each row that meets fmt, with fmt's text TOLD by the authors' own Lean function (tested against real Go, not proved from fmt's source: count such statements apart). THE CARD IS WHAT COUNTS. Prove the row's statement (the work); the ties are given (YthokgjkgfolojabDoorTie.lean); close each card by the builder's one call (the guide's Derived/Test/ToyasCard.lean, 'card_holds'). Laid BY PROGRAM, IN A SANDBOX (cutbox-door.mjs). By AI agents, Wed Nov 11 2026. No macro, syntax, notation, axiom, sorry.
-/
import Derived.Test.YthokgjkgfolojabDoorRows
import GoSem.ClaimSeven
namespace Go.Proofs.YthokgjkgfolojabDoor
namespace Rows

/-- THE TIED CARD OF 'pinnacelaw17.ViewSees'. -/
def viewSeesCard : Claim7 := { stood := { row := viewSeesRow, standIns := [], harness := (true, "1cba1285d3d13900080f4e895c1d45178688ff316ec529ff7ce0543ce2837164"), looks := false }, kinds := [], alts := [], laidByText := true, laidKinds := [.data], laidTests := true, laidLooks := .later }
def ViewSeesCardSaid : Prop := Claim7.holds Tryd.pinned (.plain (OpenSpec.ofChange viewSeesSpec)) viewSeesCard

/-- THE TIED CARD OF 'pinnacelaw17.ViewWider'. -/
def viewWiderCard : Claim7 := { stood := { row := viewWiderRow, standIns := [], harness := (true, "1cba1285d3d13900080f4e895c1d45178688ff316ec529ff7ce0543ce2837164"), looks := false }, kinds := [], alts := [], laidByText := true, laidKinds := [.data], laidTests := true, laidLooks := .later }
def ViewWiderCardSaid : Prop := Claim7.holds Tryd.pinned (.plain (OpenSpec.ofChange viewWiderSpec)) viewWiderCard

/-- THE TIED CARD OF 'pinnacelaw17.ViewParts'. -/
def viewPartsCard : Claim7 := { stood := { row := viewPartsRow, standIns := [], harness := (true, "1cba1285d3d13900080f4e895c1d45178688ff316ec529ff7ce0543ce2837164"), looks := false }, kinds := [], alts := [], laidByText := true, laidKinds := [.data], laidTests := true, laidLooks := .later }
def ViewPartsCardSaid : Prop := Claim7.holds Tryd.pinned (.plain (OpenSpec.ofChange viewPartsSpec)) viewPartsCard

/-- THE SECOND FORM's CARD OF 'pinnacelaw17.ViewSees'. -/
def viewSeesUptoCard : Claim7 := { stood := { row := viewSeesUptoRow, standIns := [], harness := (true, "1cba1285d3d13900080f4e895c1d45178688ff316ec529ff7ce0543ce2837164"), looks := false }, kinds := [], alts := [], laidByText := true, laidKinds := [.data], laidTests := true, laidLooks := .later }
def ViewSeesUptoCardSaid : Prop := Claim7.holds Tryd.pinned (.plain (OpenSpec.upto viewSeesSpec)) viewSeesUptoCard

/-- THE SECOND FORM's CARD OF 'pinnacelaw17.ViewWider'. -/
def viewWiderUptoCard : Claim7 := { stood := { row := viewWiderUptoRow, standIns := [], harness := (true, "1cba1285d3d13900080f4e895c1d45178688ff316ec529ff7ce0543ce2837164"), looks := false }, kinds := [], alts := [], laidByText := true, laidKinds := [.data], laidTests := true, laidLooks := .later }
def ViewWiderUptoCardSaid : Prop := Claim7.holds Tryd.pinned (.plain (OpenSpec.upto viewWiderSpec)) viewWiderUptoCard

/-- THE SECOND FORM's CARD OF 'pinnacelaw17.ViewParts'. -/
def viewPartsUptoCard : Claim7 := { stood := { row := viewPartsUptoRow, standIns := [], harness := (true, "1cba1285d3d13900080f4e895c1d45178688ff316ec529ff7ce0543ce2837164"), looks := false }, kinds := [], alts := [], laidByText := true, laidKinds := [.data], laidTests := true, laidLooks := .later }
def ViewPartsUptoCardSaid : Prop := Claim7.holds Tryd.pinned (.plain (OpenSpec.upto viewPartsSpec)) viewPartsUptoCard
end Rows
end Go.Proofs.YthokgjkgfolojabDoor
