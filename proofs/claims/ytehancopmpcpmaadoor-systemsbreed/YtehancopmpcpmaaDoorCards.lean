/-
  DERIVED. GIVEN WITH THE SEED: THE CARDS: each row of YtehancopmpcpmaaDoorRows.lean that lists a variable, with what it lists TIED to the program's text (the seventh form; the later family's looks); each row that meets fmt, with fmt's text TOLD by the authors' own Lean function (tested against real Go, not proved from fmt's source: count such statements apart). THE CARD IS WHAT COUNTS. Prove the row's statement (the work); the ties are given (YtehancopmpcpmaaDoorTie.lean); close each card by the builder's one call (the guide's Derived/Test/ToyasCard.lean, 'card_holds'). Laid BY PROGRAM, IN A SANDBOX (cutbox-door.mjs). By AI agents, Wed Nov 11 2026. No macro, syntax, notation, axiom, sorry.
-/
import Derived.Test.YtehancopmpcpmaaDoorRows
import GoSem.ClaimSeven
namespace Go.Proofs.YtehancopmpcpmaaDoor
namespace Rows

/-- THE TIED CARD OF 'pinnacelaw14.SystemsMove'. -/
def systemsMoveCard : Claim7 := { stood := { row := systemsMoveRow, standIns := [], harness := (true, "0a9b033f652b79ce607060986c2ff617c9b5fd6426845a374dc41de3066fb514"), looks := false }, kinds := [], alts := [], laidByText := true, laidKinds := [.data], laidTests := true, laidLooks := .later }
def SystemsMoveCardSaid : Prop := Claim7.holds Tryd.pinned (.plain (OpenSpec.ofChange systemsMoveSpec)) systemsMoveCard

/-- THE TIED CARD OF 'pinnacelaw14.SystemsAge'. -/
def systemsAgeCard : Claim7 := { stood := { row := systemsAgeRow, standIns := [], harness := (true, "0a9b033f652b79ce607060986c2ff617c9b5fd6426845a374dc41de3066fb514"), looks := false }, kinds := [], alts := [], laidByText := true, laidKinds := [.data], laidTests := true, laidLooks := .later }
def SystemsAgeCardSaid : Prop := Claim7.holds Tryd.pinned (.plain (OpenSpec.ofChange systemsAgeSpec)) systemsAgeCard

/-- THE TIED CARD OF 'pinnacelaw14.SystemsBreed'. -/
def systemsBreedCard : Claim7 := { stood := { row := systemsBreedRow, standIns := [], harness := (true, "0a9b033f652b79ce607060986c2ff617c9b5fd6426845a374dc41de3066fb514"), looks := false }, kinds := [], alts := [], laidByText := true, laidKinds := [.data], laidTests := true, laidLooks := .later }
def SystemsBreedCardSaid : Prop := Claim7.holds Tryd.pinned (.plain (OpenSpec.ofChange systemsBreedSpec)) systemsBreedCard

/-- THE TIED CARD OF 'pinnacelaw14.SystemsWithin'. -/
def systemsWithinCard : Claim7 := { stood := { row := systemsWithinRow, standIns := [], harness := (true, "0a9b033f652b79ce607060986c2ff617c9b5fd6426845a374dc41de3066fb514"), looks := false }, kinds := [], alts := [], laidByText := true, laidKinds := [.data], laidTests := true, laidLooks := .later }
def SystemsWithinCardSaid : Prop := Claim7.holds Tryd.pinned (.plain (OpenSpec.ofChange systemsWithinSpec)) systemsWithinCard

/-- THE SECOND FORM's CARD OF 'pinnacelaw14.SystemsMove'. -/
def systemsMoveUptoCard : Claim7 := { stood := { row := systemsMoveUptoRow, standIns := [], harness := (true, "0a9b033f652b79ce607060986c2ff617c9b5fd6426845a374dc41de3066fb514"), looks := false }, kinds := [], alts := [], laidByText := true, laidKinds := [.data], laidTests := true, laidLooks := .later }
def SystemsMoveUptoCardSaid : Prop := Claim7.holds Tryd.pinned (.plain (OpenSpec.upto systemsMoveSpec)) systemsMoveUptoCard

/-- THE SECOND FORM's CARD OF 'pinnacelaw14.SystemsAge'. -/
def systemsAgeUptoCard : Claim7 := { stood := { row := systemsAgeUptoRow, standIns := [], harness := (true, "0a9b033f652b79ce607060986c2ff617c9b5fd6426845a374dc41de3066fb514"), looks := false }, kinds := [], alts := [], laidByText := true, laidKinds := [.data], laidTests := true, laidLooks := .later }
def SystemsAgeUptoCardSaid : Prop := Claim7.holds Tryd.pinned (.plain (OpenSpec.upto systemsAgeSpec)) systemsAgeUptoCard

/-- THE SECOND FORM's CARD OF 'pinnacelaw14.SystemsBreed'. -/
def systemsBreedUptoCard : Claim7 := { stood := { row := systemsBreedUptoRow, standIns := [], harness := (true, "0a9b033f652b79ce607060986c2ff617c9b5fd6426845a374dc41de3066fb514"), looks := false }, kinds := [], alts := [], laidByText := true, laidKinds := [.data], laidTests := true, laidLooks := .later }
def SystemsBreedUptoCardSaid : Prop := Claim7.holds Tryd.pinned (.plain (OpenSpec.upto systemsBreedSpec)) systemsBreedUptoCard

/-- THE SECOND FORM's CARD OF 'pinnacelaw14.SystemsWithin'. -/
def systemsWithinUptoCard : Claim7 := { stood := { row := systemsWithinUptoRow, standIns := [], harness := (true, "0a9b033f652b79ce607060986c2ff617c9b5fd6426845a374dc41de3066fb514"), looks := false }, kinds := [], alts := [], laidByText := true, laidKinds := [.data], laidTests := true, laidLooks := .later }
def SystemsWithinUptoCardSaid : Prop := Claim7.holds Tryd.pinned (.plain (OpenSpec.upto systemsWithinSpec)) systemsWithinUptoCard
end Rows
end Go.Proofs.YtehancopmpcpmaaDoor
