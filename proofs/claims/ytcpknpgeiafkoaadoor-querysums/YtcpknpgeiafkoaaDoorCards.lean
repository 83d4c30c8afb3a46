/-
  DERIVED. GIVEN WITH THE SEED: THE CARDS: each row of YtcpknpgeiafkoaaDoorRows.lean that lists a variable, with what it lists TIED to the program's text (the seventh form; the later family's looks); each row that meets fmt, with fmt's text TOLD by the authors' own Lean function (tested against real Go, not proved from fmt's source: count such statements apart). THE CARD IS WHAT COUNTS. Prove the row's statement (the work); the ties are given (YtcpknpgeiafkoaaDoorTie.lean); close each card by the builder's one call (the guide's Derived/Test/ToyasCard.lean, 'card_holds'). Laid BY PROGRAM, IN A SANDBOX (cutbox-door.mjs). By AI agents, Wed Nov 11 2026. No macro, syntax, notation, axiom, sorry.
-/
import Derived.Test.YtcpknpgeiafkoaaDoorRows
import GoSem.ClaimSeven
namespace Go.Proofs.YtcpknpgeiafkoaaDoor
namespace Rows

/-- THE TIED CARD OF 'pinnacelaw12.QueryFinds'. -/
def queryFindsCard : Claim7 := { stood := { row := queryFindsRow, standIns := [], harness := (true, "04556a4b6792fb26c75233f38e14627ada0434a2715b058dc1340f8fbd7debb7"), looks := false }, kinds := [], alts := [], laidByText := true, laidKinds := [.data], laidTests := true, laidLooks := .later }
def QueryFindsCardSaid : Prop := Claim7.holds Tryd.pinned (.plain (OpenSpec.ofChange queryFindsSpec)) queryFindsCard

/-- THE TIED CARD OF 'pinnacelaw12.QueryPages'. -/
def queryPagesCard : Claim7 := { stood := { row := queryPagesRow, standIns := [], harness := (true, "04556a4b6792fb26c75233f38e14627ada0434a2715b058dc1340f8fbd7debb7"), looks := false }, kinds := [], alts := [], laidByText := true, laidKinds := [.data], laidTests := true, laidLooks := .later }
def QueryPagesCardSaid : Prop := Claim7.holds Tryd.pinned (.plain (OpenSpec.ofChange queryPagesSpec)) queryPagesCard

/-- THE TIED CARD OF 'pinnacelaw12.QuerySums'. -/
def querySumsCard : Claim7 := { stood := { row := querySumsRow, standIns := [], harness := (true, "04556a4b6792fb26c75233f38e14627ada0434a2715b058dc1340f8fbd7debb7"), looks := false }, kinds := [], alts := [], laidByText := true, laidKinds := [.data], laidTests := true, laidLooks := .later }
def QuerySumsCardSaid : Prop := Claim7.holds Tryd.pinned (.plain (OpenSpec.ofChange querySumsSpec)) querySumsCard

/-- THE TIED CARD OF 'pinnacelaw12.QueryWhole'. -/
def queryWholeCard : Claim7 := { stood := { row := queryWholeRow, standIns := [], harness := (true, "04556a4b6792fb26c75233f38e14627ada0434a2715b058dc1340f8fbd7debb7"), looks := false }, kinds := [], alts := [], laidByText := true, laidKinds := [.data], laidTests := true, laidLooks := .later }
def QueryWholeCardSaid : Prop := Claim7.holds Tryd.pinned (.plain (OpenSpec.ofChange queryWholeSpec)) queryWholeCard

/-- THE SECOND FORM's CARD OF 'pinnacelaw12.QueryFinds'. -/
def queryFindsUptoCard : Claim7 := { stood := { row := queryFindsUptoRow, standIns := [], harness := (true, "04556a4b6792fb26c75233f38e14627ada0434a2715b058dc1340f8fbd7debb7"), looks := false }, kinds := [], alts := [], laidByText := true, laidKinds := [.data], laidTests := true, laidLooks := .later }
def QueryFindsUptoCardSaid : Prop := Claim7.holds Tryd.pinned (.plain (OpenSpec.upto queryFindsSpec)) queryFindsUptoCard

/-- THE SECOND FORM's CARD OF 'pinnacelaw12.QueryPages'. -/
def queryPagesUptoCard : Claim7 := { stood := { row := queryPagesUptoRow, standIns := [], harness := (true, "04556a4b6792fb26c75233f38e14627ada0434a2715b058dc1340f8fbd7debb7"), looks := false }, kinds := [], alts := [], laidByText := true, laidKinds := [.data], laidTests := true, laidLooks := .later }
def QueryPagesUptoCardSaid : Prop := Claim7.holds Tryd.pinned (.plain (OpenSpec.upto queryPagesSpec)) queryPagesUptoCard

/-- THE SECOND FORM's CARD OF 'pinnacelaw12.QuerySums'. -/
def querySumsUptoCard : Claim7 := { stood := { row := querySumsUptoRow, standIns := [], harness := (true, "04556a4b6792fb26c75233f38e14627ada0434a2715b058dc1340f8fbd7debb7"), looks := false }, kinds := [], alts := [], laidByText := true, laidKinds := [.data], laidTests := true, laidLooks := .later }
def QuerySumsUptoCardSaid : Prop := Claim7.holds Tryd.pinned (.plain (OpenSpec.upto querySumsSpec)) querySumsUptoCard

/-- THE SECOND FORM's CARD OF 'pinnacelaw12.QueryWhole'. -/
def queryWholeUptoCard : Claim7 := { stood := { row := queryWholeUptoRow, standIns := [], harness := (true, "04556a4b6792fb26c75233f38e14627ada0434a2715b058dc1340f8fbd7debb7"), looks := false }, kinds := [], alts := [], laidByText := true, laidKinds := [.data], laidTests := true, laidLooks := .later }
def QueryWholeUptoCardSaid : Prop := Claim7.holds Tryd.pinned (.plain (OpenSpec.upto queryWholeSpec)) queryWholeUptoCard
end Rows
end Go.Proofs.YtcpknpgeiafkoaaDoor
