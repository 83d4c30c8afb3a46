/-
  DERIVED. GIVEN WITH THE SEED: THE CARDS: each row of YtlncgkbgelejmaaGreatDoorRows.lean that lists a variable, with what it lists TIED to the program's text (the seventh form; the later family's looks); each row that meets fmt, with fmt's text TOLD by the authors' own Lean function (tested against real Go, not proved from fmt's source: count such statements apart). THE CARD IS WHAT COUNTS. Prove the row's statement (the work); the ties are given (YtlncgkbgelejmaaGreatDoorTie.lean); close each card by the builder's one call (the guide's Derived/Test/ToyasCard.lean, 'card_holds'). Laid BY PROGRAM, IN A SANDBOX (cutbox-door.mjs). By AI agents, Wed Nov 11 2026. No macro, syntax, notation, axiom, sorry.
-/
import Derived.Test.YtlncgkbgelejmaaGreatDoorRows
import GoSem.ClaimSeven
namespace Go.Proofs.YtlncgkbgelejmaaGreatDoor
namespace Rows

/-- THE TIED CARD OF 'pinnacelaw20.PacketBursts'. -/
def packetBurstsCard : Claim7 := { stood := { row := packetBurstsRow, standIns := [], harness := (true, "9aae8454029b5fd2df05ec3bc9481fee79cd8496e147d55a438043f04e3e370d"), looks := true }, kinds := [], alts := [], laidByText := true, laidKinds := [.data, .data], laidTests := true, laidLooks := .later }
def PacketBurstsCardSaid : Prop := Claim7.holds Tryz.pinned (.plain (OpenSpec.ofChange packetBurstsSpec)) packetBurstsCard

/-- THE SECOND FORM's CARD OF 'pinnacelaw20.PacketBursts'. -/
def packetBurstsUptoCard : Claim7 := { stood := { row := packetBurstsUptoRow, standIns := [], harness := (true, "9aae8454029b5fd2df05ec3bc9481fee79cd8496e147d55a438043f04e3e370d"), looks := true }, kinds := [], alts := [], laidByText := true, laidKinds := [.data, .data], laidTests := true, laidLooks := .later }
def PacketBurstsUptoCardSaid : Prop := Claim7.holds Tryz.pinned (.plain (OpenSpec.upto packetBurstsSpec)) packetBurstsUptoCard
end Rows
end Go.Proofs.YtlncgkbgelejmaaGreatDoor
