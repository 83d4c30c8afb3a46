/-
  DERIVED. GIVEN WITH THE SEED: THE CARDS: each row of YtogmdoiecpihdaaGreatDoorRows.lean that lists a variable, with what it lists TIED to the program's text (the seventh form; the later family's looks); each row that meets fmt, with fmt's text TOLD by the authors' own Lean function (tested against real Go, not proved from fmt's source: count such statements apart). THE CARD IS WHAT COUNTS. Prove the row's statement (the work); the ties are given (YtogmdoiecpihdaaGreatDoorTie.lean); close each card by the builder's one call (the guide's Derived/Test/ToyasCard.lean, 'card_holds'). Laid BY PROGRAM, IN A SANDBOX (cutbox-door.mjs). By AI agents, Wed Nov 11 2026. No macro, syntax, notation, axiom, sorry.
-/
import Derived.Test.YtogmdoiecpihdaaGreatDoorRows
import GoSem.ClaimSeven
namespace Go.Proofs.YtogmdoiecpihdaaGreatDoor
namespace Rows

/-- THE TIED CARD OF 'pinnacelaw15.WorldPlays'. -/
def worldPlaysCard : Claim7 := { stood := { row := worldPlaysRow, standIns := [], harness := (true, "4b41c9bd5891817d31698d06efdb6009454ae84fba62bff55935f977f7490441"), looks := false }, kinds := [], alts := [], laidByText := true, laidKinds := [.data], laidTests := true, laidLooks := .later }
def WorldPlaysCardSaid : Prop := Claim7.holds Tryz.pinned (.plain (OpenSpec.ofChange worldPlaysSpec)) worldPlaysCard

/-- THE TIED CARD OF 'pinnacelaw18.SnapTakes'. -/
def snapTakesCard : Claim7 := { stood := { row := snapTakesRow, standIns := [], harness := (true, "4b41c9bd5891817d31698d06efdb6009454ae84fba62bff55935f977f7490441"), looks := false }, kinds := [], alts := [], laidByText := true, laidKinds := [.data], laidTests := true, laidLooks := .later }
def SnapTakesCardSaid : Prop := Claim7.holds Tryz.pinned (.plain (OpenSpec.ofChange snapTakesSpec)) snapTakesCard

/-- THE TIED CARD OF 'pinnacelaw18.SnapDirect'. -/
def snapDirectCard : Claim7 := { stood := { row := snapDirectRow, standIns := [], harness := (true, "4b41c9bd5891817d31698d06efdb6009454ae84fba62bff55935f977f7490441"), looks := false }, kinds := [], alts := [], laidByText := true, laidKinds := [.data], laidTests := true, laidLooks := .later }
def SnapDirectCardSaid : Prop := Claim7.holds Tryz.pinned (.plain (OpenSpec.ofChange snapDirectSpec)) snapDirectCard

/-- THE TIED CARD OF 'pinnacelaw18.SnapIDs'. -/
def snapIDsCard : Claim7 := { stood := { row := snapIDsRow, standIns := [], harness := (true, "4b41c9bd5891817d31698d06efdb6009454ae84fba62bff55935f977f7490441"), looks := false }, kinds := [], alts := [], laidByText := true, laidKinds := [.data], laidTests := true, laidLooks := .later }
def SnapIDsCardSaid : Prop := Claim7.holds Tryz.pinned (.plain (OpenSpec.ofChange snapIDsSpec)) snapIDsCard

/-- THE SECOND FORM's CARD OF 'pinnacelaw15.WorldPlays'. -/
def worldPlaysUptoCard : Claim7 := { stood := { row := worldPlaysUptoRow, standIns := [], harness := (true, "4b41c9bd5891817d31698d06efdb6009454ae84fba62bff55935f977f7490441"), looks := false }, kinds := [], alts := [], laidByText := true, laidKinds := [.data], laidTests := true, laidLooks := .later }
def WorldPlaysUptoCardSaid : Prop := Claim7.holds Tryz.pinned (.plain (OpenSpec.upto worldPlaysSpec)) worldPlaysUptoCard

/-- THE SECOND FORM's CARD OF 'pinnacelaw18.SnapTakes'. -/
def snapTakesUptoCard : Claim7 := { stood := { row := snapTakesUptoRow, standIns := [], harness := (true, "4b41c9bd5891817d31698d06efdb6009454ae84fba62bff55935f977f7490441"), looks := false }, kinds := [], alts := [], laidByText := true, laidKinds := [.data], laidTests := true, laidLooks := .later }
def SnapTakesUptoCardSaid : Prop := Claim7.holds Tryz.pinned (.plain (OpenSpec.upto snapTakesSpec)) snapTakesUptoCard

/-- THE SECOND FORM's CARD OF 'pinnacelaw18.SnapDirect'. -/
def snapDirectUptoCard : Claim7 := { stood := { row := snapDirectUptoRow, standIns := [], harness := (true, "4b41c9bd5891817d31698d06efdb6009454ae84fba62bff55935f977f7490441"), looks := false }, kinds := [], alts := [], laidByText := true, laidKinds := [.data], laidTests := true, laidLooks := .later }
def SnapDirectUptoCardSaid : Prop := Claim7.holds Tryz.pinned (.plain (OpenSpec.upto snapDirectSpec)) snapDirectUptoCard

/-- THE SECOND FORM's CARD OF 'pinnacelaw18.SnapIDs'. -/
def snapIDsUptoCard : Claim7 := { stood := { row := snapIDsUptoRow, standIns := [], harness := (true, "4b41c9bd5891817d31698d06efdb6009454ae84fba62bff55935f977f7490441"), looks := false }, kinds := [], alts := [], laidByText := true, laidKinds := [.data], laidTests := true, laidLooks := .later }
def SnapIDsUptoCardSaid : Prop := Claim7.holds Tryz.pinned (.plain (OpenSpec.upto snapIDsSpec)) snapIDsUptoCard
end Rows
end Go.Proofs.YtogmdoiecpihdaaGreatDoor
