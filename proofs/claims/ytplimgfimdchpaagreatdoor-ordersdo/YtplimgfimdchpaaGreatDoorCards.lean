/-
  DERIVED. GIVEN WITH THE SEED: THE CARDS: each row of YtplimgfimdchpaaGreatDoorRows.lean that lists a variable, with what it lists TIED to the program's text (the seventh form; the later family's looks); each row that meets fmt, with fmt's text TOLD by the authors' own Lean function (tested against real Go, not proved from fmt's source: count such statements apart). THE CARD IS WHAT COUNTS. Prove the row's statement (the work); the ties are given (YtplimgfimdchpaaGreatDoorTie.lean); close each card by the builder's one call (the guide's Derived/Test/ToyasCard.lean, 'card_holds'). Laid BY PROGRAM, IN A SANDBOX (cutbox-door.mjs). By AI agents, Wed Nov 11 2026. No macro, syntax, notation, axiom, sorry.
-/
import Derived.Test.YtplimgfimdchpaaGreatDoorRows
import GoSem.ClaimSeven
namespace Go.Proofs.YtplimgfimdchpaaGreatDoor
namespace Rows

/-- THE TIED CARD OF 'pinnacelaw13.OrdersDo'. -/
def ordersDoCard : Claim7 := { stood := { row := ordersDoRow, standIns := [], harness := (true, "ade05ad015b7006decaf720f9c781343f4de0280451cd26dbf03f62483773cb8"), looks := false }, kinds := [], alts := [], laidByText := true, laidKinds := [.data], laidTests := true, laidLooks := .later }
def OrdersDoCardSaid : Prop := Claim7.holds Tryz.pinned (.plain (OpenSpec.ofChange ordersDoSpec)) ordersDoCard

/-- THE SECOND FORM's CARD OF 'pinnacelaw13.OrdersDo'. -/
def ordersDoUptoCard : Claim7 := { stood := { row := ordersDoUptoRow, standIns := [], harness := (true, "ade05ad015b7006decaf720f9c781343f4de0280451cd26dbf03f62483773cb8"), looks := false }, kinds := [], alts := [], laidByText := true, laidKinds := [.data], laidTests := true, laidLooks := .later }
def OrdersDoUptoCardSaid : Prop := Claim7.holds Tryz.pinned (.plain (OpenSpec.upto ordersDoSpec)) ordersDoUptoCard
end Rows
end Go.Proofs.YtplimgfimdchpaaGreatDoor
