/-
  DERIVED. GIVEN WITH THE SEED: THE CARDS: each row of YtpmolkomnnpepaaDoorRows.lean that lists a variable, with what it lists TIED to the program's text (the seventh form; the later family's looks); each row that meets fmt, with fmt's text TOLD by the authors' own Lean function (tested against real Go, not proved from fmt's source: count such statements apart). THE CARD IS WHAT COUNTS. Prove the row's statement (the work); the ties are given (YtpmolkomnnpepaaDoorTie.lean); close each card by the builder's one call (the guide's Derived/Test/ToyasCard.lean, 'card_holds'). Laid BY PROGRAM, IN A SANDBOX (cutbox-door.mjs). By AI agents, Wed Nov 11 2026. No macro, syntax, notation, axiom, sorry.
-/
import Derived.Test.YtpmolkomnnpepaaDoorRows
import GoSem.ClaimSeven
namespace Go.Proofs.YtpmolkomnnpepaaDoor
namespace Rows

/-- THE TIED CARD OF 'pinnacelaw05.SchemaTells'. -/
def schemaTellsCard : Claim7 := { stood := { row := schemaTellsRow, standIns := [], harness := (true, "3574140b145b00f67d1e5906b91e76e98c8d6b867cac76379509b227c0f0b3c0"), looks := false }, kinds := [], alts := [], laidByText := true, laidKinds := [.data], laidTests := true, laidLooks := .later }
def SchemaTellsCardSaid : Prop := Claim7.holds Tryd.pinned (.plain (OpenSpec.ofChange schemaTellsSpec)) schemaTellsCard

/-- THE TIED CARD OF 'pinnacelaw05.SchemaNames'. -/
def schemaNamesCard : Claim7 := { stood := { row := schemaNamesRow, standIns := [], harness := (true, "3574140b145b00f67d1e5906b91e76e98c8d6b867cac76379509b227c0f0b3c0"), looks := false }, kinds := [], alts := [], laidByText := true, laidKinds := [.data], laidTests := true, laidLooks := .later }
def SchemaNamesCardSaid : Prop := Claim7.holds Tryd.pinned (.plain (OpenSpec.ofChange schemaNamesSpec)) schemaNamesCard

/-- THE TIED CARD OF 'pinnacelaw05.SchemaChecks'. -/
def schemaChecksCard : Claim7 := { stood := { row := schemaChecksRow, standIns := [], harness := (true, "3574140b145b00f67d1e5906b91e76e98c8d6b867cac76379509b227c0f0b3c0"), looks := false }, kinds := [], alts := [], laidByText := true, laidKinds := [.data], laidTests := true, laidLooks := .later }
def SchemaChecksCardSaid : Prop := Claim7.holds Tryd.pinned (.plain (OpenSpec.ofChange schemaChecksSpec)) schemaChecksCard

/-- THE TIED CARD OF 'pinnacelaw05.SchemaLists'. -/
def schemaListsCard : Claim7 := { stood := { row := schemaListsRow, standIns := [], harness := (true, "3574140b145b00f67d1e5906b91e76e98c8d6b867cac76379509b227c0f0b3c0"), looks := false }, kinds := [], alts := [], laidByText := true, laidKinds := [.data], laidTests := true, laidLooks := .later }
def SchemaListsCardSaid : Prop := Claim7.holds Tryd.pinned (.plain (OpenSpec.ofChange schemaListsSpec)) schemaListsCard

/-- THE TIED CARD OF 'pinnacelaw05.SchemaEnds'. -/
def schemaEndsCard : Claim7 := { stood := { row := schemaEndsRow, standIns := [], harness := (true, "3574140b145b00f67d1e5906b91e76e98c8d6b867cac76379509b227c0f0b3c0"), looks := false }, kinds := [], alts := [], laidByText := true, laidKinds := [.data], laidTests := true, laidLooks := .later }
def SchemaEndsCardSaid : Prop := Claim7.holds Tryd.pinned (.plain (OpenSpec.ofChange schemaEndsSpec)) schemaEndsCard

/-- THE TIED CARD OF 'pinnacelaw05.SchemaMasks'. -/
def schemaMasksCard : Claim7 := { stood := { row := schemaMasksRow, standIns := [], harness := (true, "3574140b145b00f67d1e5906b91e76e98c8d6b867cac76379509b227c0f0b3c0"), looks := false }, kinds := [], alts := [], laidByText := true, laidKinds := [.data], laidTests := true, laidLooks := .later }
def SchemaMasksCardSaid : Prop := Claim7.holds Tryd.pinned (.plain (OpenSpec.ofChange schemaMasksSpec)) schemaMasksCard

/-- THE SECOND FORM's CARD OF 'pinnacelaw05.SchemaTells'. -/
def schemaTellsUptoCard : Claim7 := { stood := { row := schemaTellsUptoRow, standIns := [], harness := (true, "3574140b145b00f67d1e5906b91e76e98c8d6b867cac76379509b227c0f0b3c0"), looks := false }, kinds := [], alts := [], laidByText := true, laidKinds := [.data], laidTests := true, laidLooks := .later }
def SchemaTellsUptoCardSaid : Prop := Claim7.holds Tryd.pinned (.plain (OpenSpec.upto schemaTellsSpec)) schemaTellsUptoCard

/-- THE SECOND FORM's CARD OF 'pinnacelaw05.SchemaNames'. -/
def schemaNamesUptoCard : Claim7 := { stood := { row := schemaNamesUptoRow, standIns := [], harness := (true, "3574140b145b00f67d1e5906b91e76e98c8d6b867cac76379509b227c0f0b3c0"), looks := false }, kinds := [], alts := [], laidByText := true, laidKinds := [.data], laidTests := true, laidLooks := .later }
def SchemaNamesUptoCardSaid : Prop := Claim7.holds Tryd.pinned (.plain (OpenSpec.upto schemaNamesSpec)) schemaNamesUptoCard

/-- THE SECOND FORM's CARD OF 'pinnacelaw05.SchemaChecks'. -/
def schemaChecksUptoCard : Claim7 := { stood := { row := schemaChecksUptoRow, standIns := [], harness := (true, "3574140b145b00f67d1e5906b91e76e98c8d6b867cac76379509b227c0f0b3c0"), looks := false }, kinds := [], alts := [], laidByText := true, laidKinds := [.data], laidTests := true, laidLooks := .later }
def SchemaChecksUptoCardSaid : Prop := Claim7.holds Tryd.pinned (.plain (OpenSpec.upto schemaChecksSpec)) schemaChecksUptoCard

/-- THE SECOND FORM's CARD OF 'pinnacelaw05.SchemaLists'. -/
def schemaListsUptoCard : Claim7 := { stood := { row := schemaListsUptoRow, standIns := [], harness := (true, "3574140b145b00f67d1e5906b91e76e98c8d6b867cac76379509b227c0f0b3c0"), looks := false }, kinds := [], alts := [], laidByText := true, laidKinds := [.data], laidTests := true, laidLooks := .later }
def SchemaListsUptoCardSaid : Prop := Claim7.holds Tryd.pinned (.plain (OpenSpec.upto schemaListsSpec)) schemaListsUptoCard

/-- THE SECOND FORM's CARD OF 'pinnacelaw05.SchemaEnds'. -/
def schemaEndsUptoCard : Claim7 := { stood := { row := schemaEndsUptoRow, standIns := [], harness := (true, "3574140b145b00f67d1e5906b91e76e98c8d6b867cac76379509b227c0f0b3c0"), looks := false }, kinds := [], alts := [], laidByText := true, laidKinds := [.data], laidTests := true, laidLooks := .later }
def SchemaEndsUptoCardSaid : Prop := Claim7.holds Tryd.pinned (.plain (OpenSpec.upto schemaEndsSpec)) schemaEndsUptoCard

/-- THE SECOND FORM's CARD OF 'pinnacelaw05.SchemaMasks'. -/
def schemaMasksUptoCard : Claim7 := { stood := { row := schemaMasksUptoRow, standIns := [], harness := (true, "3574140b145b00f67d1e5906b91e76e98c8d6b867cac76379509b227c0f0b3c0"), looks := false }, kinds := [], alts := [], laidByText := true, laidKinds := [.data], laidTests := true, laidLooks := .later }
def SchemaMasksUptoCardSaid : Prop := Claim7.holds Tryd.pinned (.plain (OpenSpec.upto schemaMasksSpec)) schemaMasksUptoCard
end Rows
end Go.Proofs.YtpmolkomnnpepaaDoor
