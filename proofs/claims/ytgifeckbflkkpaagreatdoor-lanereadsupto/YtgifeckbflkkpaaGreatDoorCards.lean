/-
  DERIVED. GIVEN WITH THE SEED: THE CARDS: each row of YtgifeckbflkkpaaGreatDoorRows.lean that lists a variable, with what it lists TIED to the program's text (the seventh form; the later family's looks); each row that meets fmt, with fmt's text TOLD by the authors' own Lean function (tested against real Go, not proved from fmt's source: count such statements apart). THE CARD IS WHAT COUNTS. Prove the row's statement (the work); the ties are given (YtgifeckbflkkpaaGreatDoorTie.lean); close each card by the builder's one call (the guide's Derived/Test/ToyasCard.lean, 'card_holds'). Laid BY PROGRAM, IN A SANDBOX (cutbox-door.mjs). By AI agents, Wed Nov 11 2026. No macro, syntax, notation, axiom, sorry.
-/
import Derived.Test.YtgifeckbflkkpaaGreatDoorRows
import GoSem.ClaimSeven
namespace Go.Proofs.YtgifeckbflkkpaaGreatDoor
namespace Rows

/-- THE TIED CARD OF 'pinnacelaw20.PacketOpens'. -/
def packetOpensCard : Claim7 := { stood := { row := packetOpensRow, standIns := [], harness := (true, "892a395f5dd6deedc67ad100af65b54c4906c8c4711efb8d293ab78704bbb13f"), looks := true }, kinds := [], alts := [], laidByText := true, laidKinds := [.data, .data], laidTests := true, laidLooks := .later }
def PacketOpensCardSaid : Prop := Claim7.holds Tryz.pinned (.plain (OpenSpec.ofChange packetOpensSpec)) packetOpensCard

/-- THE TIED CARD OF 'pinnacelaw20.PacketBodies'. -/
def packetBodiesCard : Claim7 := { stood := { row := packetBodiesRow, standIns := [], harness := (true, "892a395f5dd6deedc67ad100af65b54c4906c8c4711efb8d293ab78704bbb13f"), looks := true }, kinds := [], alts := [], laidByText := true, laidKinds := [.data, .data], laidTests := true, laidLooks := .later }
def PacketBodiesCardSaid : Prop := Claim7.holds Tryz.pinned (.plain (OpenSpec.ofChange packetBodiesSpec)) packetBodiesCard

/-- THE TIED CARD OF 'pinnacelaw21.LanePlays'. -/
def lanePlaysCard : Claim7 := { stood := { row := lanePlaysRow, standIns := [], harness := (true, "892a395f5dd6deedc67ad100af65b54c4906c8c4711efb8d293ab78704bbb13f"), looks := true }, kinds := [], alts := [], laidByText := true, laidKinds := [.data, .data], laidTests := true, laidLooks := .later }
def LanePlaysCardSaid : Prop := Claim7.holds Tryz.pinned (.plain (OpenSpec.ofChange lanePlaysSpec)) lanePlaysCard

/-- THE TIED CARD OF 'pinnacelaw21.LaneBudget'. -/
def laneBudgetCard : Claim7 := { stood := { row := laneBudgetRow, standIns := [], harness := (true, "892a395f5dd6deedc67ad100af65b54c4906c8c4711efb8d293ab78704bbb13f"), looks := true }, kinds := [], alts := [], laidByText := true, laidKinds := [.data, .data], laidTests := true, laidLooks := .later }
def LaneBudgetCardSaid : Prop := Claim7.holds Tryz.pinned (.plain (OpenSpec.ofChange laneBudgetSpec)) laneBudgetCard

/-- THE TIED CARD OF 'pinnacelaw21.LaneReads'. -/
def laneReadsCard : Claim7 := { stood := { row := laneReadsRow, standIns := [], harness := (true, "892a395f5dd6deedc67ad100af65b54c4906c8c4711efb8d293ab78704bbb13f"), looks := true }, kinds := [], alts := [], laidByText := true, laidKinds := [.data, .data], laidTests := true, laidLooks := .later }
def LaneReadsCardSaid : Prop := Claim7.holds Tryz.pinned (.plain (OpenSpec.ofChange laneReadsSpec)) laneReadsCard

/-- THE TIED CARD OF 'pinnacelaw21.LaneFull'. -/
def laneFullCard : Claim7 := { stood := { row := laneFullRow, standIns := [], harness := (true, "892a395f5dd6deedc67ad100af65b54c4906c8c4711efb8d293ab78704bbb13f"), looks := true }, kinds := [], alts := [], laidByText := true, laidKinds := [.data, .data], laidTests := true, laidLooks := .later }
def LaneFullCardSaid : Prop := Claim7.holds Tryz.pinned (.plain (OpenSpec.ofChange laneFullSpec)) laneFullCard

/-- THE SECOND FORM's CARD OF 'pinnacelaw20.PacketOpens'. -/
def packetOpensUptoCard : Claim7 := { stood := { row := packetOpensUptoRow, standIns := [], harness := (true, "892a395f5dd6deedc67ad100af65b54c4906c8c4711efb8d293ab78704bbb13f"), looks := true }, kinds := [], alts := [], laidByText := true, laidKinds := [.data, .data], laidTests := true, laidLooks := .later }
def PacketOpensUptoCardSaid : Prop := Claim7.holds Tryz.pinned (.plain (OpenSpec.upto packetOpensSpec)) packetOpensUptoCard

/-- THE SECOND FORM's CARD OF 'pinnacelaw20.PacketBodies'. -/
def packetBodiesUptoCard : Claim7 := { stood := { row := packetBodiesUptoRow, standIns := [], harness := (true, "892a395f5dd6deedc67ad100af65b54c4906c8c4711efb8d293ab78704bbb13f"), looks := true }, kinds := [], alts := [], laidByText := true, laidKinds := [.data, .data], laidTests := true, laidLooks := .later }
def PacketBodiesUptoCardSaid : Prop := Claim7.holds Tryz.pinned (.plain (OpenSpec.upto packetBodiesSpec)) packetBodiesUptoCard

/-- THE SECOND FORM's CARD OF 'pinnacelaw21.LanePlays'. -/
def lanePlaysUptoCard : Claim7 := { stood := { row := lanePlaysUptoRow, standIns := [], harness := (true, "892a395f5dd6deedc67ad100af65b54c4906c8c4711efb8d293ab78704bbb13f"), looks := true }, kinds := [], alts := [], laidByText := true, laidKinds := [.data, .data], laidTests := true, laidLooks := .later }
def LanePlaysUptoCardSaid : Prop := Claim7.holds Tryz.pinned (.plain (OpenSpec.upto lanePlaysSpec)) lanePlaysUptoCard

/-- THE SECOND FORM's CARD OF 'pinnacelaw21.LaneBudget'. -/
def laneBudgetUptoCard : Claim7 := { stood := { row := laneBudgetUptoRow, standIns := [], harness := (true, "892a395f5dd6deedc67ad100af65b54c4906c8c4711efb8d293ab78704bbb13f"), looks := true }, kinds := [], alts := [], laidByText := true, laidKinds := [.data, .data], laidTests := true, laidLooks := .later }
def LaneBudgetUptoCardSaid : Prop := Claim7.holds Tryz.pinned (.plain (OpenSpec.upto laneBudgetSpec)) laneBudgetUptoCard

/-- THE SECOND FORM's CARD OF 'pinnacelaw21.LaneReads'. -/
def laneReadsUptoCard : Claim7 := { stood := { row := laneReadsUptoRow, standIns := [], harness := (true, "892a395f5dd6deedc67ad100af65b54c4906c8c4711efb8d293ab78704bbb13f"), looks := true }, kinds := [], alts := [], laidByText := true, laidKinds := [.data, .data], laidTests := true, laidLooks := .later }
def LaneReadsUptoCardSaid : Prop := Claim7.holds Tryz.pinned (.plain (OpenSpec.upto laneReadsSpec)) laneReadsUptoCard

/-- THE SECOND FORM's CARD OF 'pinnacelaw21.LaneFull'. -/
def laneFullUptoCard : Claim7 := { stood := { row := laneFullUptoRow, standIns := [], harness := (true, "892a395f5dd6deedc67ad100af65b54c4906c8c4711efb8d293ab78704bbb13f"), looks := true }, kinds := [], alts := [], laidByText := true, laidKinds := [.data, .data], laidTests := true, laidLooks := .later }
def LaneFullUptoCardSaid : Prop := Claim7.holds Tryz.pinned (.plain (OpenSpec.upto laneFullSpec)) laneFullUptoCard
end Rows
end Go.Proofs.YtgifeckbflkkpaaGreatDoor
