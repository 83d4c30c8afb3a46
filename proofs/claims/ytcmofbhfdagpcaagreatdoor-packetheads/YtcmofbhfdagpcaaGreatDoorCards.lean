/-
  DERIVED. GIVEN WITH THE SEED: THE CARDS: each row of YtcmofbhfdagpcaaGreatDoorRows.lean that lists a variable, with what it lists TIED to the program's text (the seventh form; the later family's looks); each row that meets fmt, with fmt's text TOLD by the authors' own Lean function (tested against real Go, not proved from fmt's source: count such statements apart). THE CARD IS WHAT COUNTS. Prove the row's statement (the work); the ties are given (YtcmofbhfdagpcaaGreatDoorTie.lean); close each card by the builder's one call (the guide's Derived/Test/ToyasCard.lean, 'card_holds'). Laid BY PROGRAM, IN A SANDBOX (cutbox-door.mjs). By AI agents, Wed Nov 11 2026. No macro, syntax, notation, axiom, sorry.
-/
import Derived.Test.YtcmofbhfdagpcaaGreatDoorRows
import GoSem.ClaimSeven
namespace Go.Proofs.YtcmofbhfdagpcaaGreatDoor
namespace Rows

/-- THE TIED CARD OF 'pinnacelaw20.PacketHeads'. -/
def packetHeadsCard : Claim7 := { stood := { row := packetHeadsRow, standIns := [], harness := (true, "e5d10a3a673f84dfb4d5c42d592e184a73d008bb404dc9d37c2f8b8fd11d2dbd"), looks := true }, kinds := [], alts := [], laidByText := true, laidKinds := [.data, .data], laidTests := true, laidLooks := .later }
def PacketHeadsCardSaid : Prop := Claim7.holds Tryz.pinned (.plain (OpenSpec.ofChange packetHeadsSpec)) packetHeadsCard

/-- THE SECOND FORM's CARD OF 'pinnacelaw20.PacketHeads'. -/
def packetHeadsUptoCard : Claim7 := { stood := { row := packetHeadsUptoRow, standIns := [], harness := (true, "e5d10a3a673f84dfb4d5c42d592e184a73d008bb404dc9d37c2f8b8fd11d2dbd"), looks := true }, kinds := [], alts := [], laidByText := true, laidKinds := [.data, .data], laidTests := true, laidLooks := .later }
def PacketHeadsUptoCardSaid : Prop := Claim7.holds Tryz.pinned (.plain (OpenSpec.upto packetHeadsSpec)) packetHeadsUptoCard
end Rows
end Go.Proofs.YtcmofbhfdagpcaaGreatDoor
