/-
  DERIVED. GIVEN WITH THE SEED: THE CARDS: each row of YtmblhaoapinbiaaDoorRows.lean that lists a variable, with what it lists TIED to the program's text (the seventh form; the later family's looks); each row that meets fmt, with fmt's text TOLD by the authors' own Lean function (tested against real Go, not proved from fmt's source: count such statements apart). THE CARD IS WHAT COUNTS. Prove the row's statement (the work); the ties are given (YtmblhaoapinbiaaDoorTie.lean); close each card by the builder's one call (the guide's Derived/Test/ToyasCard.lean, 'card_holds'). Laid BY PROGRAM, IN A SANDBOX (cutbox-door.mjs). By AI agents, Wed Nov 11 2026. No macro, syntax, notation, axiom, sorry.
-/
import Derived.Test.YtmblhaoapinbiaaDoorRows
import GoSem.ClaimSeven
namespace Go.Proofs.YtmblhaoapinbiaaDoor
namespace Rows

/-- THE TIED CARD OF 'pinnacelaw13.OrdersParts'. -/
def ordersPartsCard : Claim7 := { stood := { row := ordersPartsRow, standIns := [], harness := (true, "8276668bab19e9829eb3035287315e3732d2dd2158c11c716a9f71f4643afc47"), looks := false }, kinds := [], alts := [], laidByText := true, laidKinds := [.data], laidTests := true, laidLooks := .later }
def OrdersPartsCardSaid : Prop := Claim7.holds Tryd.pinned (.plain (OpenSpec.ofChange ordersPartsSpec)) ordersPartsCard

/-- THE SECOND FORM's CARD OF 'pinnacelaw13.OrdersParts'. -/
def ordersPartsUptoCard : Claim7 := { stood := { row := ordersPartsUptoRow, standIns := [], harness := (true, "8276668bab19e9829eb3035287315e3732d2dd2158c11c716a9f71f4643afc47"), looks := false }, kinds := [], alts := [], laidByText := true, laidKinds := [.data], laidTests := true, laidLooks := .later }
def OrdersPartsUptoCardSaid : Prop := Claim7.holds Tryd.pinned (.plain (OpenSpec.upto ordersPartsSpec)) ordersPartsUptoCard
end Rows
end Go.Proofs.YtmblhaoapinbiaaDoor
