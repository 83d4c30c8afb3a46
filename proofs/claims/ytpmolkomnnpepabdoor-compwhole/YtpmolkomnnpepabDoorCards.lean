/-
  DERIVED. GIVEN WITH THE SEED: THE CARDS: each row of YtpmolkomnnpepabDoorRows.lean that lists a variable, with what it lists TIED to the program's text (the seventh form; the later family's looks); each row that meets fmt, with fmt's text TOLD by the authors' own Lean function (tested against real Go, not proved from fmt's source: count such statements apart). THE CARD IS WHAT COUNTS. Prove the row's statement (the work); the ties are given (YtpmolkomnnpepabDoorTie.lean); close each card by the builder's one call (the guide's Derived/Test/ToyasCard.lean, 'card_holds'). Laid BY PROGRAM, IN A SANDBOX (cutbox-door.mjs). By AI agents, Wed Nov 11 2026. No macro, syntax, notation, axiom, sorry.
-/
import Derived.Test.YtpmolkomnnpepabDoorRows
import GoSem.ClaimSeven
namespace Go.Proofs.YtpmolkomnnpepabDoor
namespace Rows

/-- THE TIED CARD OF 'pinnacelaw06.CompWhole'. -/
def compWholeCard : Claim7 := { stood := { row := compWholeRow, standIns := [], harness := (true, "8ca0d6b8ccc34495e322e2d592ec33e163ccb62834ee7392b16817c4c942c2a4"), looks := false }, kinds := [], alts := [], laidByText := true, laidKinds := [.data], laidTests := true, laidLooks := .later }
def CompWholeCardSaid : Prop := Claim7.holds Tryd.pinned (.plain (OpenSpec.ofChange compWholeSpec)) compWholeCard

/-- THE TIED CARD OF 'pinnacelaw06.CompSteps'. -/
def compStepsCard : Claim7 := { stood := { row := compStepsRow, standIns := [], harness := (true, "8ca0d6b8ccc34495e322e2d592ec33e163ccb62834ee7392b16817c4c942c2a4"), looks := false }, kinds := [], alts := [], laidByText := true, laidKinds := [.data], laidTests := true, laidLooks := .later }
def CompStepsCardSaid : Prop := Claim7.holds Tryd.pinned (.plain (OpenSpec.ofChange compStepsSpec)) compStepsCard

/-- THE TIED CARD OF 'pinnacelaw06.CompGets'. -/
def compGetsCard : Claim7 := { stood := { row := compGetsRow, standIns := [], harness := (true, "8ca0d6b8ccc34495e322e2d592ec33e163ccb62834ee7392b16817c4c942c2a4"), looks := false }, kinds := [], alts := [], laidByText := true, laidKinds := [.data], laidTests := true, laidLooks := .later }
def CompGetsCardSaid : Prop := Claim7.holds Tryd.pinned (.plain (OpenSpec.ofChange compGetsSpec)) compGetsCard

/-- THE TIED CARD OF 'pinnacelaw06.CompReads'. -/
def compReadsCard : Claim7 := { stood := { row := compReadsRow, standIns := [], harness := (true, "8ca0d6b8ccc34495e322e2d592ec33e163ccb62834ee7392b16817c4c942c2a4"), looks := false }, kinds := [], alts := [], laidByText := true, laidKinds := [.data], laidTests := true, laidLooks := .later }
def CompReadsCardSaid : Prop := Claim7.holds Tryd.pinned (.plain (OpenSpec.ofChange compReadsSpec)) compReadsCard

/-- THE TIED CARD OF 'pinnacelaw06.CompChanges'. -/
def compChangesCard : Claim7 := { stood := { row := compChangesRow, standIns := [], harness := (true, "8ca0d6b8ccc34495e322e2d592ec33e163ccb62834ee7392b16817c4c942c2a4"), looks := false }, kinds := [], alts := [], laidByText := true, laidKinds := [.data], laidTests := true, laidLooks := .later }
def CompChangesCardSaid : Prop := Claim7.holds Tryd.pinned (.plain (OpenSpec.ofChange compChangesSpec)) compChangesCard

/-- THE TIED CARD OF 'pinnacelaw06.CompNil'. -/
def compNilCard : Claim7 := { stood := { row := compNilRow, standIns := [], harness := (true, "8ca0d6b8ccc34495e322e2d592ec33e163ccb62834ee7392b16817c4c942c2a4"), looks := false }, kinds := [], alts := [], laidByText := true, laidKinds := [.data], laidTests := true, laidLooks := .later }
def CompNilCardSaid : Prop := Claim7.holds Tryd.pinned (.plain (OpenSpec.ofChange compNilSpec)) compNilCard

/-- THE SECOND FORM's CARD OF 'pinnacelaw06.CompWhole'. -/
def compWholeUptoCard : Claim7 := { stood := { row := compWholeUptoRow, standIns := [], harness := (true, "8ca0d6b8ccc34495e322e2d592ec33e163ccb62834ee7392b16817c4c942c2a4"), looks := false }, kinds := [], alts := [], laidByText := true, laidKinds := [.data], laidTests := true, laidLooks := .later }
def CompWholeUptoCardSaid : Prop := Claim7.holds Tryd.pinned (.plain (OpenSpec.upto compWholeSpec)) compWholeUptoCard

/-- THE SECOND FORM's CARD OF 'pinnacelaw06.CompSteps'. -/
def compStepsUptoCard : Claim7 := { stood := { row := compStepsUptoRow, standIns := [], harness := (true, "8ca0d6b8ccc34495e322e2d592ec33e163ccb62834ee7392b16817c4c942c2a4"), looks := false }, kinds := [], alts := [], laidByText := true, laidKinds := [.data], laidTests := true, laidLooks := .later }
def CompStepsUptoCardSaid : Prop := Claim7.holds Tryd.pinned (.plain (OpenSpec.upto compStepsSpec)) compStepsUptoCard

/-- THE SECOND FORM's CARD OF 'pinnacelaw06.CompGets'. -/
def compGetsUptoCard : Claim7 := { stood := { row := compGetsUptoRow, standIns := [], harness := (true, "8ca0d6b8ccc34495e322e2d592ec33e163ccb62834ee7392b16817c4c942c2a4"), looks := false }, kinds := [], alts := [], laidByText := true, laidKinds := [.data], laidTests := true, laidLooks := .later }
def CompGetsUptoCardSaid : Prop := Claim7.holds Tryd.pinned (.plain (OpenSpec.upto compGetsSpec)) compGetsUptoCard

/-- THE SECOND FORM's CARD OF 'pinnacelaw06.CompReads'. -/
def compReadsUptoCard : Claim7 := { stood := { row := compReadsUptoRow, standIns := [], harness := (true, "8ca0d6b8ccc34495e322e2d592ec33e163ccb62834ee7392b16817c4c942c2a4"), looks := false }, kinds := [], alts := [], laidByText := true, laidKinds := [.data], laidTests := true, laidLooks := .later }
def CompReadsUptoCardSaid : Prop := Claim7.holds Tryd.pinned (.plain (OpenSpec.upto compReadsSpec)) compReadsUptoCard

/-- THE SECOND FORM's CARD OF 'pinnacelaw06.CompChanges'. -/
def compChangesUptoCard : Claim7 := { stood := { row := compChangesUptoRow, standIns := [], harness := (true, "8ca0d6b8ccc34495e322e2d592ec33e163ccb62834ee7392b16817c4c942c2a4"), looks := false }, kinds := [], alts := [], laidByText := true, laidKinds := [.data], laidTests := true, laidLooks := .later }
def CompChangesUptoCardSaid : Prop := Claim7.holds Tryd.pinned (.plain (OpenSpec.upto compChangesSpec)) compChangesUptoCard

/-- THE SECOND FORM's CARD OF 'pinnacelaw06.CompNil'. -/
def compNilUptoCard : Claim7 := { stood := { row := compNilUptoRow, standIns := [], harness := (true, "8ca0d6b8ccc34495e322e2d592ec33e163ccb62834ee7392b16817c4c942c2a4"), looks := false }, kinds := [], alts := [], laidByText := true, laidKinds := [.data], laidTests := true, laidLooks := .later }
def CompNilUptoCardSaid : Prop := Claim7.holds Tryd.pinned (.plain (OpenSpec.upto compNilSpec)) compNilUptoCard
end Rows
end Go.Proofs.YtpmolkomnnpepabDoor
