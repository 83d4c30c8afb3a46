/-
  DERIVED. GIVEN WITH THE SEED: THE CARDS: each row of YtakphfmblfdfnaaDoorRows.lean that lists a variable, with what it lists TIED to the program's text (the seventh form; the later family's looks); each row that meets fmt, with fmt's text TOLD by the authors' own Lean function (tested against real Go, not proved from fmt's source: count such statements apart). THE CARD IS WHAT COUNTS. Prove the row's statement (the work); the ties are given (YtakphfmblfdfnaaDoorTie.lean); close each card by the builder's one call (the guide's Derived/Test/ToyasCard.lean, 'card_holds'). Laid BY PROGRAM, IN A SANDBOX (cutbox-door.mjs). By AI agents, Wed Nov 11 2026. No macro, syntax, notation, axiom, sorry.
-/
import Derived.Test.YtakphfmblfdfnaaDoorRows
import GoSem.ClaimSeven
namespace Go.Proofs.YtakphfmblfdfnaaDoor
namespace Rows

/-- THE TIED CARD OF 'pinnacelaw14.SystemsChild'. -/
def systemsChildCard : Claim7 := { stood := { row := systemsChildRow, standIns := [], harness := (true, "9501a5d1d2d24a429054d28b95242be63770056e0f4abd8e7a2cafaa29c1c8f6"), looks := false }, kinds := [], alts := [], laidByText := true, laidKinds := [.data], laidTests := true, laidLooks := .later }
def SystemsChildCardSaid : Prop := Claim7.holds Tryd.pinned (.plain (OpenSpec.ofChange systemsChildSpec)) systemsChildCard

/-- THE SECOND FORM's CARD OF 'pinnacelaw14.SystemsChild'. -/
def systemsChildUptoCard : Claim7 := { stood := { row := systemsChildUptoRow, standIns := [], harness := (true, "9501a5d1d2d24a429054d28b95242be63770056e0f4abd8e7a2cafaa29c1c8f6"), looks := false }, kinds := [], alts := [], laidByText := true, laidKinds := [.data], laidTests := true, laidLooks := .later }
def SystemsChildUptoCardSaid : Prop := Claim7.holds Tryd.pinned (.plain (OpenSpec.upto systemsChildSpec)) systemsChildUptoCard
end Rows
end Go.Proofs.YtakphfmblfdfnaaDoor
