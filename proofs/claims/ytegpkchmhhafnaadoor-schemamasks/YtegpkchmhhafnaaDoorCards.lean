/-
  DERIVED. GIVEN WITH THE SEED: THE CARDS: each row of YtegpkchmhhafnaaDoorRows.lean that lists a variable, with what it lists TIED to the program's text (the seventh form; the later family's looks); each row that meets fmt, with fmt's text TOLD by the authors' own Lean function (tested against real Go, not proved from fmt's source: count such statements apart). THE CARD IS WHAT COUNTS. Prove the row's statement (the work); the ties are given (YtegpkchmhhafnaaDoorTie.lean); close each card by the builder's one call (the guide's Derived/Test/ToyasCard.lean, 'card_holds'). Laid BY PROGRAM, IN A SANDBOX (cutbox-door.mjs). By AI agents, Wed Nov 11 2026. No macro, syntax, notation, axiom, sorry.
-/
import Derived.Test.YtegpkchmhhafnaaDoorRows
import GoSem.ClaimSeven
namespace Go.Proofs.YtegpkchmhhafnaaDoor
namespace Rows

/-- THE TIED CARD OF 'pinnacelaw05.SchemaLists'. -/
def schemaListsCard : Claim7 := { stood := { row := schemaListsRow, standIns := [], harness := (true, "3ebda4bf7fb83e641793aa45a42008650d22d7132c5ff8cf223b0628d803d692"), looks := false }, kinds := [], alts := [], laidByText := true, laidKinds := [.data], laidTests := true, laidLooks := .later }
def SchemaListsCardSaid : Prop := Claim7.holds Tryd.pinned (.plain (OpenSpec.ofChange schemaListsSpec)) schemaListsCard

/-- THE TIED CARD OF 'pinnacelaw05.SchemaMasks'. -/
def schemaMasksCard : Claim7 := { stood := { row := schemaMasksRow, standIns := [], harness := (true, "3ebda4bf7fb83e641793aa45a42008650d22d7132c5ff8cf223b0628d803d692"), looks := false }, kinds := [], alts := [], laidByText := true, laidKinds := [.data], laidTests := true, laidLooks := .later }
def SchemaMasksCardSaid : Prop := Claim7.holds Tryd.pinned (.plain (OpenSpec.ofChange schemaMasksSpec)) schemaMasksCard

/-- THE SECOND FORM's CARD OF 'pinnacelaw05.SchemaLists'. -/
def schemaListsUptoCard : Claim7 := { stood := { row := schemaListsUptoRow, standIns := [], harness := (true, "3ebda4bf7fb83e641793aa45a42008650d22d7132c5ff8cf223b0628d803d692"), looks := false }, kinds := [], alts := [], laidByText := true, laidKinds := [.data], laidTests := true, laidLooks := .later }
def SchemaListsUptoCardSaid : Prop := Claim7.holds Tryd.pinned (.plain (OpenSpec.upto schemaListsSpec)) schemaListsUptoCard

/-- THE SECOND FORM's CARD OF 'pinnacelaw05.SchemaMasks'. -/
def schemaMasksUptoCard : Claim7 := { stood := { row := schemaMasksUptoRow, standIns := [], harness := (true, "3ebda4bf7fb83e641793aa45a42008650d22d7132c5ff8cf223b0628d803d692"), looks := false }, kinds := [], alts := [], laidByText := true, laidKinds := [.data], laidTests := true, laidLooks := .later }
def SchemaMasksUptoCardSaid : Prop := Claim7.holds Tryd.pinned (.plain (OpenSpec.upto schemaMasksSpec)) schemaMasksUptoCard
end Rows
end Go.Proofs.YtegpkchmhhafnaaDoor
