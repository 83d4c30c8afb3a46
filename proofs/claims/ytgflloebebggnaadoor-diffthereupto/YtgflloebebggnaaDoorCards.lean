/-
  DERIVED. GIVEN WITH THE SEED: THE CARDS: each row of YtgflloebebggnaaDoorRows.lean that lists a variable, with what it lists TIED to the program's text (the seventh form; the later family's looks); each row that meets fmt, with fmt's text TOLD by the authors' own Lean function (tested against real Go, not proved from fmt's source: count such statements apart). THE CARD IS WHAT COUNTS. Prove the row's statement (the work); the ties are given (YtgflloebebggnaaDoorTie.lean); close each card by the builder's one call (the guide's Derived/Test/ToyasCard.lean, 'card_holds'). Laid BY PROGRAM, IN A SANDBOX (cutbox-door.mjs). By AI agents, Wed Nov 11 2026. No macro, syntax, notation, axiom, sorry.
-/
import Derived.Test.YtgflloebebggnaaDoorRows
import GoSem.ClaimSeven
namespace Go.Proofs.YtgflloebebggnaaDoor
namespace Rows

/-- THE TIED CARD OF 'pinnacelaw19.DiffThere'. -/
def diffThereCard : Claim7 := { stood := { row := diffThereRow, standIns := [], harness := (true, "d1862d0a2216ae9e24856d778d2530156386d7de8be0348321ec060fa757bbb0"), looks := false }, kinds := [], alts := [], laidByText := true, laidKinds := [.data], laidTests := true, laidLooks := .later }
def DiffThereCardSaid : Prop := Claim7.holds Tryd.pinned (.plain (OpenSpec.ofChange diffThereSpec)) diffThereCard

/-- THE TIED CARD OF 'pinnacelaw19.DiffPatches'. -/
def diffPatchesCard : Claim7 := { stood := { row := diffPatchesRow, standIns := [], harness := (true, "d1862d0a2216ae9e24856d778d2530156386d7de8be0348321ec060fa757bbb0"), looks := false }, kinds := [], alts := [], laidByText := true, laidKinds := [.data], laidTests := true, laidLooks := .later }
def DiffPatchesCardSaid : Prop := Claim7.holds Tryd.pinned (.plain (OpenSpec.ofChange diffPatchesSpec)) diffPatchesCard

/-- THE TIED CARD OF 'pinnacelaw19.DiffParts'. -/
def diffPartsCard : Claim7 := { stood := { row := diffPartsRow, standIns := [], harness := (true, "d1862d0a2216ae9e24856d778d2530156386d7de8be0348321ec060fa757bbb0"), looks := false }, kinds := [], alts := [], laidByText := true, laidKinds := [.data], laidTests := true, laidLooks := .later }
def DiffPartsCardSaid : Prop := Claim7.holds Tryd.pinned (.plain (OpenSpec.ofChange diffPartsSpec)) diffPartsCard

/-- THE SECOND FORM's CARD OF 'pinnacelaw19.DiffThere'. -/
def diffThereUptoCard : Claim7 := { stood := { row := diffThereUptoRow, standIns := [], harness := (true, "d1862d0a2216ae9e24856d778d2530156386d7de8be0348321ec060fa757bbb0"), looks := false }, kinds := [], alts := [], laidByText := true, laidKinds := [.data], laidTests := true, laidLooks := .later }
def DiffThereUptoCardSaid : Prop := Claim7.holds Tryd.pinned (.plain (OpenSpec.upto diffThereSpec)) diffThereUptoCard

/-- THE SECOND FORM's CARD OF 'pinnacelaw19.DiffPatches'. -/
def diffPatchesUptoCard : Claim7 := { stood := { row := diffPatchesUptoRow, standIns := [], harness := (true, "d1862d0a2216ae9e24856d778d2530156386d7de8be0348321ec060fa757bbb0"), looks := false }, kinds := [], alts := [], laidByText := true, laidKinds := [.data], laidTests := true, laidLooks := .later }
def DiffPatchesUptoCardSaid : Prop := Claim7.holds Tryd.pinned (.plain (OpenSpec.upto diffPatchesSpec)) diffPatchesUptoCard

/-- THE SECOND FORM's CARD OF 'pinnacelaw19.DiffParts'. -/
def diffPartsUptoCard : Claim7 := { stood := { row := diffPartsUptoRow, standIns := [], harness := (true, "d1862d0a2216ae9e24856d778d2530156386d7de8be0348321ec060fa757bbb0"), looks := false }, kinds := [], alts := [], laidByText := true, laidKinds := [.data], laidTests := true, laidLooks := .later }
def DiffPartsUptoCardSaid : Prop := Claim7.holds Tryd.pinned (.plain (OpenSpec.upto diffPartsSpec)) diffPartsUptoCard
end Rows
end Go.Proofs.YtgflloebebggnaaDoor
