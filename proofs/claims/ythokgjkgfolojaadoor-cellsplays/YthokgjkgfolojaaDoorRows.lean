/-
  NARROWER THAN 'FOR EVERY INPUT', by the rows' own cells (each row's printed sentence says how): CellsOf: laid · CellsPlays: laid · CellsParts: laid · CellsStill: laid · CellsOne: laid.
  DERIVED. THE GIVEN ROWS OF THIS SEAT. 5 by the template 'for every input the law returns true; each argument reads behind the call as it read before'; 0 by the template 'total and deterministic' (their statements: YthokgjkgfolojaaDoorTotals.lean).
  GIVEN WITH THE SEED: the statements are not yours to turn. If you find one false, say at which input.
  Laid BY PROGRAM, IN A SANDBOX (cutbox-rows.mjs): the forced cells as the released guide's own fill.sh prints them over the translation 3aec94c2f78beda4… (all of the seat's roots in one cut). By AI agents, Wed Nov 11 2026. No macro, syntax, notation, axiom, sorry.
-/
import Derived.Test.YthokgjkgfolojaaDoorChecked
import GoSem.Claim
import GoSem.ClaimJoined
import GoSem.ClaimMapViews
import Derived.JoinedTies
import Derived.KernelRfl
namespace Go.Proofs.YthokgjkgfolojaaDoor
/- THE CELL 'sum', in the pinned program and in every row, IS THE sha256 OF THE DUMP (.gsa) THAT YthokgjkgfolojaaDoorProg.lean LOADS. Nothing in Lean hashes anything: it is a label: what it is worth is what the hold of that sum in a sandbox is worth. -/
noncomputable def Tryd.pinned : Pinned := { name := "ythokgjkgfolojaadoor", sum := "3aec94c2f78beda4ea2f27f3397f9a529e479c01ddc73c3e8dfa85a5cfd6c2bd", checked := Tryd.checked }
namespace Rows
def none {H : Type} : Left H := { results := [], args := [] }

/- WHAT THE LISTED PACKAGE-LEVEL VARIABLES READ AS WHEN THE CALL BEGINS. Each datum BY PROGRAM (the guide's laid-datum.mjs) off the statement by which the dump's own 'gosem.cut.vars' lays the variable. In a bare row this is a premise. The card (YthokgjkgfolojaaDoorCards.lean) ties it to the program's text. -/
def laid_pinnace_schema_rows {H : Type} : DataW H := .agg [.agg [.lit (.string [112, 111, 115]), .lit (.bool true), .lit (.int .i64 2), .agg [.agg [.lit (.string [120]), .lit (.int .i32 (-524288)), .lit (.int .i32 524287)], .agg [.lit (.string [121]), .lit (.int .i32 (-524288)), .lit (.int .i32 524287)], .agg [.lit (.string []), .lit (.int .i32 0), .lit (.int .i32 0)]]], .agg [.lit (.string [118, 101, 108]), .lit (.bool true), .lit (.int .i64 2), .agg [.agg [.lit (.string [100, 120]), .lit (.int .i32 (-32768)), .lit (.int .i32 32767)], .agg [.lit (.string [100, 121]), .lit (.int .i32 (-32768)), .lit (.int .i32 32767)], .agg [.lit (.string []), .lit (.int .i32 0), .lit (.int .i32 0)]]], .agg [.lit (.string [108, 105, 102, 101]), .lit (.bool true), .lit (.int .i64 1), .agg [.agg [.lit (.string [108, 101, 102, 116]), .lit (.int .i32 0), .lit (.int .i32 4095)], .agg [.lit (.string []), .lit (.int .i32 0), .lit (.int .i32 0)], .agg [.lit (.string []), .lit (.int .i32 0), .lit (.int .i32 0)]]], .agg [.lit (.string [98, 111, 100, 121]), .lit (.bool true), .lit (.int .i64 3), .agg [.agg [.lit (.string [115, 104, 97, 112, 101]), .lit (.int .i32 0), .lit (.int .i32 15)], .agg [.lit (.string [104, 112]), .lit (.int .i32 0), .lit (.int .i32 1000)], .agg [.lit (.string [115, 105, 122, 101]), .lit (.int .i32 1), .lit (.int .i32 100)]]], .agg [.lit (.string [116, 97, 103]), .lit (.bool true), .lit (.int .i64 3), .agg [.agg [.lit (.string [116, 101, 97, 109]), .lit (.int .i32 0), .lit (.int .i32 7)], .agg [.lit (.string [99, 111, 108, 111, 114]), .lit (.int .i32 0), .lit (.int .i32 255)], .agg [.lit (.string [102, 108, 97, 103, 115]), .lit (.int .i32 0), .lit (.int .i32 31)]]], .agg [.lit (.string [115, 112, 97, 119, 110]), .lit (.bool false), .lit (.int .i64 3), .agg [.agg [.lit (.string [101, 118, 101, 114, 121]), .lit (.int .i32 1), .lit (.int .i32 255)], .agg [.lit (.string [108, 101, 102, 116]), .lit (.int .i32 0), .lit (.int .i32 254)], .agg [.lit (.string [115, 104, 97, 112, 101]), .lit (.int .i32 0), .lit (.int .i32 15)]]]]

/-- 'pinnacelaw16.CellsOf': WHATEVER THE INPUT: true; the input reads as it did. -/
def cellsOfSpec : ChangeSpec := { name := "cellsOf", fn := fun _ => fun
  | [d] => { results := [.lit (.bool true)], args := [d] }
  | _ => none }
def cellsOfRow : OpenClaim := { program := "ythokgjkgfolojaadoor", sum := "3aec94c2f78beda4ea2f27f3397f9a529e479c01ddc73c3e8dfa85a5cfd6c2bd", func := "pinnace/pinnacelaw16.CellsOf", spec := "cellsOf", unfollowed := true, recurses := true, named := ["pinnace/schema.rows"], plainKeys := false, apart := false, laid := [("pinnace/schema.rows", laid_pinnace_schema_rows)] }
def CellsOfSaid : Prop := cellsOfRow.holds Tryd.pinned (OpenSpec.ofChange cellsOfSpec)

/-- ITS FALSE NEIGHBOUR: 'it returns false'. Refute it at one input. -/
def cellsOfWrong : ChangeSpec := { name := "cellsOf", fn := fun _ => fun
  | [d] => { results := [.lit (.bool false)], args := [d] }
  | _ => none }
def CellsOfWrongFalsely : Prop := cellsOfRow.holds Tryd.pinned (OpenSpec.ofChange cellsOfWrong)

/-- 'pinnacelaw16.CellsPlays': WHATEVER THE INPUT: true; the input reads as it did. -/
def cellsPlaysSpec : ChangeSpec := { name := "cellsPlays", fn := fun _ => fun
  | [d1, d2, d3, d4, d5] => { results := [.lit (.bool true)], args := [d1, d2, d3, d4, d5] }
  | _ => none }
def cellsPlaysRow : OpenClaim := { program := "ythokgjkgfolojaadoor", sum := "3aec94c2f78beda4ea2f27f3397f9a529e479c01ddc73c3e8dfa85a5cfd6c2bd", func := "pinnace/pinnacelaw16.CellsPlays", spec := "cellsPlays", unfollowed := true, recurses := true, named := ["pinnace/schema.rows"], plainKeys := false, apart := false, laid := [("pinnace/schema.rows", laid_pinnace_schema_rows)] }
def CellsPlaysSaid : Prop := cellsPlaysRow.holds Tryd.pinned (OpenSpec.ofChange cellsPlaysSpec)

/-- ITS FALSE NEIGHBOUR: 'it returns false'. Refute it at one input. -/
def cellsPlaysWrong : ChangeSpec := { name := "cellsPlays", fn := fun _ => fun
  | [d1, d2, d3, d4, d5] => { results := [.lit (.bool false)], args := [d1, d2, d3, d4, d5] }
  | _ => none }
def CellsPlaysWrongFalsely : Prop := cellsPlaysRow.holds Tryd.pinned (OpenSpec.ofChange cellsPlaysWrong)

/-- 'pinnacelaw16.CellsParts': WHATEVER THE INPUT: true; the input reads as it did. -/
def cellsPartsSpec : ChangeSpec := { name := "cellsParts", fn := fun _ => fun
  | [d1, d2, d3] => { results := [.lit (.bool true)], args := [d1, d2, d3] }
  | _ => none }
def cellsPartsRow : OpenClaim := { program := "ythokgjkgfolojaadoor", sum := "3aec94c2f78beda4ea2f27f3397f9a529e479c01ddc73c3e8dfa85a5cfd6c2bd", func := "pinnace/pinnacelaw16.CellsParts", spec := "cellsParts", unfollowed := true, recurses := true, named := ["pinnace/schema.rows"], plainKeys := false, apart := false, laid := [("pinnace/schema.rows", laid_pinnace_schema_rows)] }
def CellsPartsSaid : Prop := cellsPartsRow.holds Tryd.pinned (OpenSpec.ofChange cellsPartsSpec)

/-- ITS FALSE NEIGHBOUR: 'it returns false'. Refute it at one input. -/
def cellsPartsWrong : ChangeSpec := { name := "cellsParts", fn := fun _ => fun
  | [d1, d2, d3] => { results := [.lit (.bool false)], args := [d1, d2, d3] }
  | _ => none }
def CellsPartsWrongFalsely : Prop := cellsPartsRow.holds Tryd.pinned (OpenSpec.ofChange cellsPartsWrong)

/-- 'pinnacelaw16.CellsStill': WHATEVER THE INPUT: true; the input reads as it did. -/
def cellsStillSpec : ChangeSpec := { name := "cellsStill", fn := fun _ => fun
  | [d1, d2, d3, d4, d5, d6] => { results := [.lit (.bool true)], args := [d1, d2, d3, d4, d5, d6] }
  | _ => none }
def cellsStillRow : OpenClaim := { program := "ythokgjkgfolojaadoor", sum := "3aec94c2f78beda4ea2f27f3397f9a529e479c01ddc73c3e8dfa85a5cfd6c2bd", func := "pinnace/pinnacelaw16.CellsStill", spec := "cellsStill", unfollowed := true, recurses := true, named := ["pinnace/schema.rows"], plainKeys := false, apart := false, laid := [("pinnace/schema.rows", laid_pinnace_schema_rows)] }
def CellsStillSaid : Prop := cellsStillRow.holds Tryd.pinned (OpenSpec.ofChange cellsStillSpec)

/-- ITS FALSE NEIGHBOUR: 'it returns false'. Refute it at one input. -/
def cellsStillWrong : ChangeSpec := { name := "cellsStill", fn := fun _ => fun
  | [d1, d2, d3, d4, d5, d6] => { results := [.lit (.bool false)], args := [d1, d2, d3, d4, d5, d6] }
  | _ => none }
def CellsStillWrongFalsely : Prop := cellsStillRow.holds Tryd.pinned (OpenSpec.ofChange cellsStillWrong)

/-- 'pinnacelaw16.CellsOne': WHATEVER THE INPUT: true; the input reads as it did. -/
def cellsOneSpec : ChangeSpec := { name := "cellsOne", fn := fun _ => fun
  | [d] => { results := [.lit (.bool true)], args := [d] }
  | _ => none }
def cellsOneRow : OpenClaim := { program := "ythokgjkgfolojaadoor", sum := "3aec94c2f78beda4ea2f27f3397f9a529e479c01ddc73c3e8dfa85a5cfd6c2bd", func := "pinnace/pinnacelaw16.CellsOne", spec := "cellsOne", unfollowed := true, recurses := true, named := ["pinnace/schema.rows"], plainKeys := false, apart := false, laid := [("pinnace/schema.rows", laid_pinnace_schema_rows)] }
def CellsOneSaid : Prop := cellsOneRow.holds Tryd.pinned (OpenSpec.ofChange cellsOneSpec)

/-- ITS FALSE NEIGHBOUR: 'it returns false'. Refute it at one input. -/
def cellsOneWrong : ChangeSpec := { name := "cellsOne", fn := fun _ => fun
  | [d] => { results := [.lit (.bool false)], args := [d] }
  | _ => none }
def CellsOneWrongFalsely : Prop := cellsOneRow.holds Tryd.pinned (OpenSpec.ofChange cellsOneWrong)

/- THE SECOND FORM. 'bulk': how many values and letters a reading holds, each counted each time it is reached (what is shared counts as often as it is met; a slice's spare places count too). A statement '..UptoSaid' is the law's where the arguments, and the package variables that the reading takes, are together of bulk at most 1048576: NARROWER than '..Said'. Prove '..Said' where nothing that the law and all that it calls make is longer than what came in: it says more and counts as full. Else prove '..UptoSaid'. A law counts once. -/
mutual
def uptoBulk {H : Type} : DataW H → Nat
  | .lit (.string bytes) => bytes.length + 1
  | .lit _ => 1
  | .nil => 1
  | .ptr d => uptoBulk d + 1
  | .slice elems spare => uptoBulkAll elems + uptoBulkAll spare + 1
  | .agg parts => uptoBulkAll parts + 1
  | .iface _ d => uptoBulk d + 1
  | .map entries => uptoBulkEntries entries + 1
  | .held _ => 1
def uptoBulkAll {H : Type} : List (DataW H) → Nat
  | [] => 0
  | d :: r => uptoBulk d + uptoBulkAll r
def uptoBulkEntries {H : Type} : List (Lit × DataW H) → Nat
  | [] => 0
  | x :: r => uptoBulkEntry x + uptoBulkEntries r
def uptoBulkEntry {H : Type} : Lit × DataW H → Nat
  | (.string bytes, d) => bytes.length + uptoBulk d + 1
  | (_, d) => uptoBulk d + 1
 end
def uptoSmall : (H : Type) → List (DataW H) → Bool := fun _ ds => decide (uptoBulkAll ds ≤ 1048576)
def OpenSpec.upto (s : _root_.Go.ChangeSpec) : _root_.Go.OpenSpec := { _root_.Go.OpenSpec.ofChange s with cond := some uptoSmall }

/-- 'pinnacelaw16.CellsOf', WHERE WHAT IT READS IS OF BULK AT MOST 1048576: true; the input reads as it did. -/
def cellsOfUptoRow : OpenClaim := { program := "ythokgjkgfolojaadoor", sum := "3aec94c2f78beda4ea2f27f3397f9a529e479c01ddc73c3e8dfa85a5cfd6c2bd", func := "pinnace/pinnacelaw16.CellsOf", spec := "cellsOf", unfollowed := true, recurses := true, named := ["pinnace/schema.rows"], plainKeys := false, apart := false, laid := [("pinnace/schema.rows", laid_pinnace_schema_rows)], narrowed := true }
def CellsOfUptoSaid : Prop := cellsOfUptoRow.holds Tryd.pinned (OpenSpec.upto cellsOfSpec)

/-- 'pinnacelaw16.CellsPlays', WHERE WHAT IT READS IS OF BULK AT MOST 1048576: true; the input reads as it did. -/
def cellsPlaysUptoRow : OpenClaim := { program := "ythokgjkgfolojaadoor", sum := "3aec94c2f78beda4ea2f27f3397f9a529e479c01ddc73c3e8dfa85a5cfd6c2bd", func := "pinnace/pinnacelaw16.CellsPlays", spec := "cellsPlays", unfollowed := true, recurses := true, named := ["pinnace/schema.rows"], plainKeys := false, apart := false, laid := [("pinnace/schema.rows", laid_pinnace_schema_rows)], narrowed := true }
def CellsPlaysUptoSaid : Prop := cellsPlaysUptoRow.holds Tryd.pinned (OpenSpec.upto cellsPlaysSpec)

/-- 'pinnacelaw16.CellsParts', WHERE WHAT IT READS IS OF BULK AT MOST 1048576: true; the input reads as it did. -/
def cellsPartsUptoRow : OpenClaim := { program := "ythokgjkgfolojaadoor", sum := "3aec94c2f78beda4ea2f27f3397f9a529e479c01ddc73c3e8dfa85a5cfd6c2bd", func := "pinnace/pinnacelaw16.CellsParts", spec := "cellsParts", unfollowed := true, recurses := true, named := ["pinnace/schema.rows"], plainKeys := false, apart := false, laid := [("pinnace/schema.rows", laid_pinnace_schema_rows)], narrowed := true }
def CellsPartsUptoSaid : Prop := cellsPartsUptoRow.holds Tryd.pinned (OpenSpec.upto cellsPartsSpec)

/-- 'pinnacelaw16.CellsStill', WHERE WHAT IT READS IS OF BULK AT MOST 1048576: true; the input reads as it did. -/
def cellsStillUptoRow : OpenClaim := { program := "ythokgjkgfolojaadoor", sum := "3aec94c2f78beda4ea2f27f3397f9a529e479c01ddc73c3e8dfa85a5cfd6c2bd", func := "pinnace/pinnacelaw16.CellsStill", spec := "cellsStill", unfollowed := true, recurses := true, named := ["pinnace/schema.rows"], plainKeys := false, apart := false, laid := [("pinnace/schema.rows", laid_pinnace_schema_rows)], narrowed := true }
def CellsStillUptoSaid : Prop := cellsStillUptoRow.holds Tryd.pinned (OpenSpec.upto cellsStillSpec)

/-- 'pinnacelaw16.CellsOne', WHERE WHAT IT READS IS OF BULK AT MOST 1048576: true; the input reads as it did. -/
def cellsOneUptoRow : OpenClaim := { program := "ythokgjkgfolojaadoor", sum := "3aec94c2f78beda4ea2f27f3397f9a529e479c01ddc73c3e8dfa85a5cfd6c2bd", func := "pinnace/pinnacelaw16.CellsOne", spec := "cellsOne", unfollowed := true, recurses := true, named := ["pinnace/schema.rows"], plainKeys := false, apart := false, laid := [("pinnace/schema.rows", laid_pinnace_schema_rows)], narrowed := true }
def CellsOneUptoSaid : Prop := cellsOneUptoRow.holds Tryd.pinned (OpenSpec.upto cellsOneSpec)

end Rows
end Go.Proofs.YthokgjkgfolojaaDoor
