/-
  DERIVED. GIVEN WITH THE SEED: THE CARDS: each row of YtoobfmedkhbkiaaDoorRows.lean that lists a variable, with what it lists TIED to the program's text (the seventh form; the later family's looks); each row that meets fmt, with fmt's text TOLD by the authors' own Lean function (tested against real Go, not proved from fmt's source: count such statements apart). THE CARD IS WHAT COUNTS. Prove the row's statement (the work); the ties are given (YtoobfmedkhbkiaaDoorTie.lean); close each card by the builder's one call (the guide's Derived/Test/ToyasCard.lean, 'card_holds'). Laid BY PROGRAM, IN A SANDBOX (cutbox-door.mjs). By AI agents, Wed Nov 11 2026. No macro, syntax, notation, axiom, sorry.
-/
import Derived.Test.YtoobfmedkhbkiaaDoorRows
import GoSem.ClaimSeven
namespace Go.Proofs.YtoobfmedkhbkiaaDoor
namespace Rows

/-- THE TIED CARD OF 'pinnacelaw13.OrdersChecks'. -/
def ordersChecksCard : Claim7 := { stood := { row := ordersChecksRow, standIns := [], harness := (true, "4723d8cf68faffe3bf4e039719e53f5780cf732191568c6d7ac14a548bb269ec"), looks := false }, kinds := [], alts := [], laidByText := true, laidKinds := [.data], laidTests := true, laidLooks := .later }
def OrdersChecksCardSaid : Prop := Claim7.holds Tryd.pinned (.plain (OpenSpec.ofChange ordersChecksSpec)) ordersChecksCard

/-- THE TIED CARD OF 'pinnacelaw13.OrdersNone'. -/
def ordersNoneCard : Claim7 := { stood := { row := ordersNoneRow, standIns := [], harness := (true, "4723d8cf68faffe3bf4e039719e53f5780cf732191568c6d7ac14a548bb269ec"), looks := false }, kinds := [], alts := [], laidByText := true, laidKinds := [.data], laidTests := true, laidLooks := .later }
def OrdersNoneCardSaid : Prop := Claim7.holds Tryd.pinned (.plain (OpenSpec.ofChange ordersNoneSpec)) ordersNoneCard

/-- THE TIED CARD OF 'pinnacelaw13.OrdersFull'. -/
def ordersFullCard : Claim7 := { stood := { row := ordersFullRow, standIns := [], harness := (true, "4723d8cf68faffe3bf4e039719e53f5780cf732191568c6d7ac14a548bb269ec"), looks := false }, kinds := [], alts := [], laidByText := true, laidKinds := [.data], laidTests := true, laidLooks := .later }
def OrdersFullCardSaid : Prop := Claim7.holds Tryd.pinned (.plain (OpenSpec.ofChange ordersFullSpec)) ordersFullCard

/-- THE SECOND FORM's CARD OF 'pinnacelaw13.OrdersChecks'. -/
def ordersChecksUptoCard : Claim7 := { stood := { row := ordersChecksUptoRow, standIns := [], harness := (true, "4723d8cf68faffe3bf4e039719e53f5780cf732191568c6d7ac14a548bb269ec"), looks := false }, kinds := [], alts := [], laidByText := true, laidKinds := [.data], laidTests := true, laidLooks := .later }
def OrdersChecksUptoCardSaid : Prop := Claim7.holds Tryd.pinned (.plain (OpenSpec.upto ordersChecksSpec)) ordersChecksUptoCard

/-- THE SECOND FORM's CARD OF 'pinnacelaw13.OrdersNone'. -/
def ordersNoneUptoCard : Claim7 := { stood := { row := ordersNoneUptoRow, standIns := [], harness := (true, "4723d8cf68faffe3bf4e039719e53f5780cf732191568c6d7ac14a548bb269ec"), looks := false }, kinds := [], alts := [], laidByText := true, laidKinds := [.data], laidTests := true, laidLooks := .later }
def OrdersNoneUptoCardSaid : Prop := Claim7.holds Tryd.pinned (.plain (OpenSpec.upto ordersNoneSpec)) ordersNoneUptoCard

/-- THE SECOND FORM's CARD OF 'pinnacelaw13.OrdersFull'. -/
def ordersFullUptoCard : Claim7 := { stood := { row := ordersFullUptoRow, standIns := [], harness := (true, "4723d8cf68faffe3bf4e039719e53f5780cf732191568c6d7ac14a548bb269ec"), looks := false }, kinds := [], alts := [], laidByText := true, laidKinds := [.data], laidTests := true, laidLooks := .later }
def OrdersFullUptoCardSaid : Prop := Claim7.holds Tryd.pinned (.plain (OpenSpec.upto ordersFullSpec)) ordersFullUptoCard
end Rows
end Go.Proofs.YtoobfmedkhbkiaaDoor
