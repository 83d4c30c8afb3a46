/-
  DERIVED. GIVEN WITH THE SEED: THE CARDS: each row of YtllhipfielgnbaaDoorRows.lean that lists a variable, with what it lists TIED to the program's text (the seventh form; the later family's looks); each row that meets fmt, with fmt's text TOLD by the authors' own Lean function (tested against real Go, not proved from fmt's source: count such statements apart). THE CARD IS WHAT COUNTS. Prove the row's statement (the work); the ties are given (YtllhipfielgnbaaDoorTie.lean); close each card by the builder's one call (the guide's Derived/Test/ToyasCard.lean, 'card_holds'). Laid BY PROGRAM, IN A SANDBOX (cutbox-door.mjs). By AI agents, Wed Nov 11 2026. No macro, syntax, notation, axiom, sorry.
-/
import Derived.Test.YtllhipfielgnbaaDoorRows
import GoSem.ClaimSeven
namespace Go.Proofs.YtllhipfielgnbaaDoor
namespace Rows

/-- THE TIED CARD OF 'pinnacelaw06.CompSteps'. -/
def compStepsCard : Claim7 := { stood := { row := compStepsRow, standIns := [], harness := (true, "3b6ec10ecb5a8dec2e0daf80b3764bbd442228e3f8940a8a4f93296a762da05d"), looks := false }, kinds := [], alts := [], laidByText := true, laidKinds := [.data], laidTests := true, laidLooks := .later }
def CompStepsCardSaid : Prop := Claim7.holds Tryd.pinned (.plain (OpenSpec.ofChange compStepsSpec)) compStepsCard

/-- THE TIED CARD OF 'pinnacelaw06.CompChanges'. -/
def compChangesCard : Claim7 := { stood := { row := compChangesRow, standIns := [], harness := (true, "3b6ec10ecb5a8dec2e0daf80b3764bbd442228e3f8940a8a4f93296a762da05d"), looks := false }, kinds := [], alts := [], laidByText := true, laidKinds := [.data], laidTests := true, laidLooks := .later }
def CompChangesCardSaid : Prop := Claim7.holds Tryd.pinned (.plain (OpenSpec.ofChange compChangesSpec)) compChangesCard

/-- THE SECOND FORM's CARD OF 'pinnacelaw06.CompSteps'. -/
def compStepsUptoCard : Claim7 := { stood := { row := compStepsUptoRow, standIns := [], harness := (true, "3b6ec10ecb5a8dec2e0daf80b3764bbd442228e3f8940a8a4f93296a762da05d"), looks := false }, kinds := [], alts := [], laidByText := true, laidKinds := [.data], laidTests := true, laidLooks := .later }
def CompStepsUptoCardSaid : Prop := Claim7.holds Tryd.pinned (.plain (OpenSpec.upto compStepsSpec)) compStepsUptoCard

/-- THE SECOND FORM's CARD OF 'pinnacelaw06.CompChanges'. -/
def compChangesUptoCard : Claim7 := { stood := { row := compChangesUptoRow, standIns := [], harness := (true, "3b6ec10ecb5a8dec2e0daf80b3764bbd442228e3f8940a8a4f93296a762da05d"), looks := false }, kinds := [], alts := [], laidByText := true, laidKinds := [.data], laidTests := true, laidLooks := .later }
def CompChangesUptoCardSaid : Prop := Claim7.holds Tryd.pinned (.plain (OpenSpec.upto compChangesSpec)) compChangesUptoCard
end Rows
end Go.Proofs.YtllhipfielgnbaaDoor
