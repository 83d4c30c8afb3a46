/-
  DERIVED. GIVEN WITH THE SEED: THE CARDS: each row of YtheafmecpnjdjaaDoorRows.lean that lists a variable, with what it lists TIED to the program's text (the seventh form; the later family's looks); each row that meets fmt, with fmt's text TOLD by the authors' own Lean function (tested against real Go, not proved from fmt's source: count such statements apart). THE CARD IS WHAT COUNTS. Prove the row's statement (the work); the ties are given (YtheafmecpnjdjaaDoorTie.lean); close each card by the builder's one call (the guide's Derived/Test/ToyasCard.lean, 'card_holds'). Laid BY PROGRAM, IN A SANDBOX (cutbox-door.mjs). By AI agents, Wed Nov 11 2026. No macro, syntax, notation, axiom, sorry.
-/
import Derived.Test.YtheafmecpnjdjaaDoorRows
import GoSem.ClaimSeven
namespace Go.Proofs.YtheafmecpnjdjaaDoor
namespace Rows

/-- THE TIED CARD OF 'pinnacelaw20.PacketShort'. -/
def packetShortCard : Claim7 := { stood := { row := packetShortRow, standIns := [], harness := (true, "e47fb27de0c2612fcd6d8799febd57f4b9fb06bba442bab2357d0acf7300b69d"), looks := false }, kinds := [], alts := [], laidByText := true, laidKinds := [.data, .data], laidTests := true, laidLooks := .later }
def PacketShortCardSaid : Prop := Claim7.holds Tryd.pinned (.plain (OpenSpec.ofChange packetShortSpec)) packetShortCard

/-- THE TIED CARD OF 'pinnacelaw20.PacketApart'. -/
def packetApartCard : Claim7 := { stood := { row := packetApartRow, standIns := [], harness := (true, "e47fb27de0c2612fcd6d8799febd57f4b9fb06bba442bab2357d0acf7300b69d"), looks := false }, kinds := [], alts := [], laidByText := true, laidKinds := [.data, .data], laidTests := true, laidLooks := .later }
def PacketApartCardSaid : Prop := Claim7.holds Tryd.pinned (.plain (OpenSpec.ofChange packetApartSpec)) packetApartCard

/-- THE SECOND FORM's CARD OF 'pinnacelaw20.PacketShort'. -/
def packetShortUptoCard : Claim7 := { stood := { row := packetShortUptoRow, standIns := [], harness := (true, "e47fb27de0c2612fcd6d8799febd57f4b9fb06bba442bab2357d0acf7300b69d"), looks := false }, kinds := [], alts := [], laidByText := true, laidKinds := [.data, .data], laidTests := true, laidLooks := .later }
def PacketShortUptoCardSaid : Prop := Claim7.holds Tryd.pinned (.plain (OpenSpec.upto packetShortSpec)) packetShortUptoCard

/-- THE SECOND FORM's CARD OF 'pinnacelaw20.PacketApart'. -/
def packetApartUptoCard : Claim7 := { stood := { row := packetApartUptoRow, standIns := [], harness := (true, "e47fb27de0c2612fcd6d8799febd57f4b9fb06bba442bab2357d0acf7300b69d"), looks := false }, kinds := [], alts := [], laidByText := true, laidKinds := [.data, .data], laidTests := true, laidLooks := .later }
def PacketApartUptoCardSaid : Prop := Claim7.holds Tryd.pinned (.plain (OpenSpec.upto packetApartSpec)) packetApartUptoCard
end Rows
end Go.Proofs.YtheafmecpnjdjaaDoor
