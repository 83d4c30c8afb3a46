/-
  DERIVED. GIVEN WITH THE SEED: THE CARDS: each row of YtflmgilmbppieaaGreatDoorRows.lean that lists a variable, with what it lists TIED to the program's text (the seventh form; the later family's looks); each row that meets fmt, with fmt's text TOLD by the authors' own Lean function (tested against real Go, not proved from fmt's source: count such statements apart). THE CARD IS WHAT COUNTS. Prove the row's statement (the work); the ties are given (YtflmgilmbppieaaGreatDoorTie.lean); close each card by the builder's one call (the guide's Derived/Test/ToyasCard.lean, 'card_holds'). Laid BY PROGRAM, IN A SANDBOX (cutbox-door.mjs). By AI agents, Wed Nov 11 2026. No macro, syntax, notation, axiom, sorry.
-/
import Derived.Test.YtflmgilmbppieaaGreatDoorRows
import GoSem.ClaimSeven
namespace Go.Proofs.YtflmgilmbppieaaGreatDoor
namespace Rows

/-- THE TIED CARD OF 'pinnacelaw15.WorldPlays'. -/
def worldPlaysCard : Claim7 := { stood := { row := worldPlaysRow, standIns := [], harness := (true, "a45a48472d794549e4b14cca92a05f8dfece0fb79fef83cb0bedfed76c5d7748"), looks := false }, kinds := [], alts := [], laidByText := true, laidKinds := [.data], laidTests := true, laidLooks := .later }
def WorldPlaysCardSaid : Prop := Claim7.holds Tryz.pinned (.plain (OpenSpec.ofChange worldPlaysSpec)) worldPlaysCard

/-- THE TIED CARD OF 'pinnacelaw15.WorldPlaces'. -/
def worldPlacesCard : Claim7 := { stood := { row := worldPlacesRow, standIns := [], harness := (true, "a45a48472d794549e4b14cca92a05f8dfece0fb79fef83cb0bedfed76c5d7748"), looks := false }, kinds := [], alts := [], laidByText := true, laidKinds := [.data], laidTests := true, laidLooks := .later }
def WorldPlacesCardSaid : Prop := Claim7.holds Tryz.pinned (.plain (OpenSpec.ofChange worldPlacesSpec)) worldPlacesCard

/-- THE TIED CARD OF 'pinnacelaw15.WorldRoom'. -/
def worldRoomCard : Claim7 := { stood := { row := worldRoomRow, standIns := [], harness := (true, "a45a48472d794549e4b14cca92a05f8dfece0fb79fef83cb0bedfed76c5d7748"), looks := false }, kinds := [], alts := [], laidByText := true, laidKinds := [.data], laidTests := true, laidLooks := .later }
def WorldRoomCardSaid : Prop := Claim7.holds Tryz.pinned (.plain (OpenSpec.ofChange worldRoomSpec)) worldRoomCard

/-- THE TIED CARD OF 'pinnacelaw15.WorldQuiet'. -/
def worldQuietCard : Claim7 := { stood := { row := worldQuietRow, standIns := [], harness := (true, "a45a48472d794549e4b14cca92a05f8dfece0fb79fef83cb0bedfed76c5d7748"), looks := false }, kinds := [], alts := [], laidByText := true, laidKinds := [.data], laidTests := true, laidLooks := .later }
def WorldQuietCardSaid : Prop := Claim7.holds Tryz.pinned (.plain (OpenSpec.ofChange worldQuietSpec)) worldQuietCard

/-- THE TIED CARD OF 'pinnacelaw18.SnapTakes'. -/
def snapTakesCard : Claim7 := { stood := { row := snapTakesRow, standIns := [], harness := (true, "a45a48472d794549e4b14cca92a05f8dfece0fb79fef83cb0bedfed76c5d7748"), looks := false }, kinds := [], alts := [], laidByText := true, laidKinds := [.data], laidTests := true, laidLooks := .later }
def SnapTakesCardSaid : Prop := Claim7.holds Tryz.pinned (.plain (OpenSpec.ofChange snapTakesSpec)) snapTakesCard

/-- THE TIED CARD OF 'pinnacelaw18.SnapDirect'. -/
def snapDirectCard : Claim7 := { stood := { row := snapDirectRow, standIns := [], harness := (true, "a45a48472d794549e4b14cca92a05f8dfece0fb79fef83cb0bedfed76c5d7748"), looks := false }, kinds := [], alts := [], laidByText := true, laidKinds := [.data], laidTests := true, laidLooks := .later }
def SnapDirectCardSaid : Prop := Claim7.holds Tryz.pinned (.plain (OpenSpec.ofChange snapDirectSpec)) snapDirectCard

/-- THE TIED CARD OF 'pinnacelaw18.SnapIDs'. -/
def snapIDsCard : Claim7 := { stood := { row := snapIDsRow, standIns := [], harness := (true, "a45a48472d794549e4b14cca92a05f8dfece0fb79fef83cb0bedfed76c5d7748"), looks := false }, kinds := [], alts := [], laidByText := true, laidKinds := [.data], laidTests := true, laidLooks := .later }
def SnapIDsCardSaid : Prop := Claim7.holds Tryz.pinned (.plain (OpenSpec.ofChange snapIDsSpec)) snapIDsCard

/-- THE SECOND FORM's CARD OF 'pinnacelaw15.WorldPlays'. -/
def worldPlaysUptoCard : Claim7 := { stood := { row := worldPlaysUptoRow, standIns := [], harness := (true, "a45a48472d794549e4b14cca92a05f8dfece0fb79fef83cb0bedfed76c5d7748"), looks := false }, kinds := [], alts := [], laidByText := true, laidKinds := [.data], laidTests := true, laidLooks := .later }
def WorldPlaysUptoCardSaid : Prop := Claim7.holds Tryz.pinned (.plain (OpenSpec.upto worldPlaysSpec)) worldPlaysUptoCard

/-- THE SECOND FORM's CARD OF 'pinnacelaw15.WorldPlaces'. -/
def worldPlacesUptoCard : Claim7 := { stood := { row := worldPlacesUptoRow, standIns := [], harness := (true, "a45a48472d794549e4b14cca92a05f8dfece0fb79fef83cb0bedfed76c5d7748"), looks := false }, kinds := [], alts := [], laidByText := true, laidKinds := [.data], laidTests := true, laidLooks := .later }
def WorldPlacesUptoCardSaid : Prop := Claim7.holds Tryz.pinned (.plain (OpenSpec.upto worldPlacesSpec)) worldPlacesUptoCard

/-- THE SECOND FORM's CARD OF 'pinnacelaw15.WorldRoom'. -/
def worldRoomUptoCard : Claim7 := { stood := { row := worldRoomUptoRow, standIns := [], harness := (true, "a45a48472d794549e4b14cca92a05f8dfece0fb79fef83cb0bedfed76c5d7748"), looks := false }, kinds := [], alts := [], laidByText := true, laidKinds := [.data], laidTests := true, laidLooks := .later }
def WorldRoomUptoCardSaid : Prop := Claim7.holds Tryz.pinned (.plain (OpenSpec.upto worldRoomSpec)) worldRoomUptoCard

/-- THE SECOND FORM's CARD OF 'pinnacelaw15.WorldQuiet'. -/
def worldQuietUptoCard : Claim7 := { stood := { row := worldQuietUptoRow, standIns := [], harness := (true, "a45a48472d794549e4b14cca92a05f8dfece0fb79fef83cb0bedfed76c5d7748"), looks := false }, kinds := [], alts := [], laidByText := true, laidKinds := [.data], laidTests := true, laidLooks := .later }
def WorldQuietUptoCardSaid : Prop := Claim7.holds Tryz.pinned (.plain (OpenSpec.upto worldQuietSpec)) worldQuietUptoCard

/-- THE SECOND FORM's CARD OF 'pinnacelaw18.SnapTakes'. -/
def snapTakesUptoCard : Claim7 := { stood := { row := snapTakesUptoRow, standIns := [], harness := (true, "a45a48472d794549e4b14cca92a05f8dfece0fb79fef83cb0bedfed76c5d7748"), looks := false }, kinds := [], alts := [], laidByText := true, laidKinds := [.data], laidTests := true, laidLooks := .later }
def SnapTakesUptoCardSaid : Prop := Claim7.holds Tryz.pinned (.plain (OpenSpec.upto snapTakesSpec)) snapTakesUptoCard

/-- THE SECOND FORM's CARD OF 'pinnacelaw18.SnapDirect'. -/
def snapDirectUptoCard : Claim7 := { stood := { row := snapDirectUptoRow, standIns := [], harness := (true, "a45a48472d794549e4b14cca92a05f8dfece0fb79fef83cb0bedfed76c5d7748"), looks := false }, kinds := [], alts := [], laidByText := true, laidKinds := [.data], laidTests := true, laidLooks := .later }
def SnapDirectUptoCardSaid : Prop := Claim7.holds Tryz.pinned (.plain (OpenSpec.upto snapDirectSpec)) snapDirectUptoCard

/-- THE SECOND FORM's CARD OF 'pinnacelaw18.SnapIDs'. -/
def snapIDsUptoCard : Claim7 := { stood := { row := snapIDsUptoRow, standIns := [], harness := (true, "a45a48472d794549e4b14cca92a05f8dfece0fb79fef83cb0bedfed76c5d7748"), looks := false }, kinds := [], alts := [], laidByText := true, laidKinds := [.data], laidTests := true, laidLooks := .later }
def SnapIDsUptoCardSaid : Prop := Claim7.holds Tryz.pinned (.plain (OpenSpec.upto snapIDsSpec)) snapIDsUptoCard
end Rows
end Go.Proofs.YtflmgilmbppieaaGreatDoor
