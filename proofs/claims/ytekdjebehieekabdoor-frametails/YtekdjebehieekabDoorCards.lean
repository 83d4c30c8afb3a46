/-
  DERIVED. GIVEN WITH THE SEED: THE CARDS: each row of YtekdjebehieekabDoorRows.lean that lists a variable, with what it lists TIED to the program's text (the seventh form; the later family's looks); each row that meets fmt, with fmt's text TOLD by the authors' own Lean function (tested against real Go, not proved from fmt's source: count such statements apart). THE CARD IS WHAT COUNTS. Prove the row's statement (the work); the ties are given (YtekdjebehieekabDoorTie.lean); close each card by the builder's one call (the guide's Derived/Test/ToyasCard.lean, 'card_holds'). Laid BY PROGRAM, IN A SANDBOX (cutbox-door.mjs). By AI agents, Wed Nov 11 2026. No macro, syntax, notation, axiom, sorry.
-/
import Derived.Test.YtekdjebehieekabDoorRows
import GoSem.ClaimSeven
namespace Go.Proofs.YtekdjebehieekabDoor
namespace Rows

/-- THE TIED CARD OF 'pinnacelaw03.FrameTails'. -/
def frameTailsCard : Claim7 := { stood := { row := frameTailsRow, standIns := [], harness := (true, "dec59169f585f21dea87d57e23b1a6835c7e44cfaf5a923f3719595148438593"), looks := false }, kinds := [], alts := [], laidByText := true, laidKinds := [.data], laidTests := true, laidLooks := .later }
def FrameTailsCardSaid : Prop := Claim7.holds Tryd.pinned (.plain (OpenSpec.ofChange frameTailsSpec)) frameTailsCard

/-- THE SECOND FORM's CARD OF 'pinnacelaw03.FrameTails'. -/
def frameTailsUptoCard : Claim7 := { stood := { row := frameTailsUptoRow, standIns := [], harness := (true, "dec59169f585f21dea87d57e23b1a6835c7e44cfaf5a923f3719595148438593"), looks := false }, kinds := [], alts := [], laidByText := true, laidKinds := [.data], laidTests := true, laidLooks := .later }
def FrameTailsUptoCardSaid : Prop := Claim7.holds Tryd.pinned (.plain (OpenSpec.upto frameTailsSpec)) frameTailsUptoCard
end Rows
end Go.Proofs.YtekdjebehieekabDoor
