/-
  NARROWER THAN 'FOR EVERY INPUT', by the rows' own cells (each row's printed sentence says how): WorldPlays: laid · SnapTakes: laid · SnapDirect: laid · SnapIDs: laid.
  DERIVED. THE GIVEN ROWS OF THIS SEAT. 4 by the template 'for every input the law returns true; each argument reads behind the call as it read before'; 0 by the template 'total and deterministic' (their statements: YtogmdoiecpihdaaGreatDoorTotals.lean).
  GIVEN WITH THE SEED: the statements are not yours to turn. If you find one false, say at which input.
  Laid BY PROGRAM, IN A SANDBOX (cutbox-rows.mjs): the forced cells as the released guide's own fill.sh prints them over the translation c7ba5681a17e1ec1… (all of the seat's roots in one cut). By AI agents, Wed Nov 11 2026. No macro, syntax, notation, axiom, sorry.
-/
import Derived.Test.YtogmdoiecpihdaaGreatDoorChecked
import GoSem.Claim
import GoSem.ClaimJoined
import GoSem.ClaimMapViews
import Derived.JoinedTies
import Derived.KernelRfl
namespace Go.Proofs.YtogmdoiecpihdaaGreatDoor
/- THE CELL 'sum', in the pinned program and in every row, IS THE sha256 OF THE DUMP (.gsa) THAT YtogmdoiecpihdaaGreatDoorProg.lean LOADS. Nothing in Lean hashes anything: it is a label: what it is worth is what the hold of that sum in a sandbox is worth. -/
noncomputable def Tryz.pinned : Pinned := { name := "ytogmdoiecpihdaagreatdoor", sum := "c7ba5681a17e1ec1ac26c1e3a4c12e0d51a0cec0ec1731b40d190b0a4bbebc2c", checked := Tryz.checked }
namespace Rows
def none {H : Type} : Left H := { results := [], args := [] }

/- WHAT THE LISTED PACKAGE-LEVEL VARIABLES READ AS WHEN THE CALL BEGINS. Each datum BY PROGRAM (the guide's laid-datum.mjs) off the statement by which the dump's own 'gosem.cut.vars' lays the variable. In a bare row this is a premise. The card (YtogmdoiecpihdaaGreatDoorCards.lean) ties it to the program's text. -/
def laid_pinnace_schema_rows {H : Type} : DataW H := .agg [.agg [.lit (.string [112, 111, 115]), .lit (.bool true), .lit (.int .i64 2), .agg [.agg [.lit (.string [120]), .lit (.int .i32 (-524288)), .lit (.int .i32 524287)], .agg [.lit (.string [121]), .lit (.int .i32 (-524288)), .lit (.int .i32 524287)], .agg [.lit (.string []), .lit (.int .i32 0), .lit (.int .i32 0)]]], .agg [.lit (.string [118, 101, 108]), .lit (.bool true), .lit (.int .i64 2), .agg [.agg [.lit (.string [100, 120]), .lit (.int .i32 (-32768)), .lit (.int .i32 32767)], .agg [.lit (.string [100, 121]), .lit (.int .i32 (-32768)), .lit (.int .i32 32767)], .agg [.lit (.string []), .lit (.int .i32 0), .lit (.int .i32 0)]]], .agg [.lit (.string [108, 105, 102, 101]), .lit (.bool true), .lit (.int .i64 1), .agg [.agg [.lit (.string [108, 101, 102, 116]), .lit (.int .i32 0), .lit (.int .i32 4095)], .agg [.lit (.string []), .lit (.int .i32 0), .lit (.int .i32 0)], .agg [.lit (.string []), .lit (.int .i32 0), .lit (.int .i32 0)]]], .agg [.lit (.string [98, 111, 100, 121]), .lit (.bool true), .lit (.int .i64 3), .agg [.agg [.lit (.string [115, 104, 97, 112, 101]), .lit (.int .i32 0), .lit (.int .i32 15)], .agg [.lit (.string [104, 112]), .lit (.int .i32 0), .lit (.int .i32 1000)], .agg [.lit (.string [115, 105, 122, 101]), .lit (.int .i32 1), .lit (.int .i32 100)]]], .agg [.lit (.string [116, 97, 103]), .lit (.bool true), .lit (.int .i64 3), .agg [.agg [.lit (.string [116, 101, 97, 109]), .lit (.int .i32 0), .lit (.int .i32 7)], .agg [.lit (.string [99, 111, 108, 111, 114]), .lit (.int .i32 0), .lit (.int .i32 255)], .agg [.lit (.string [102, 108, 97, 103, 115]), .lit (.int .i32 0), .lit (.int .i32 31)]]], .agg [.lit (.string [115, 112, 97, 119, 110]), .lit (.bool false), .lit (.int .i64 3), .agg [.agg [.lit (.string [101, 118, 101, 114, 121]), .lit (.int .i32 1), .lit (.int .i32 255)], .agg [.lit (.string [108, 101, 102, 116]), .lit (.int .i32 0), .lit (.int .i32 254)], .agg [.lit (.string [115, 104, 97, 112, 101]), .lit (.int .i32 0), .lit (.int .i32 15)]]]]

/-- 'pinnacelaw15.WorldPlays': WHATEVER THE INPUT: true; the input reads as it did. -/
def worldPlaysSpec : ChangeSpec := { name := "worldPlays", fn := fun _ => fun
  | [d1, d2, d3, d4] => { results := [.lit (.bool true)], args := [d1, d2, d3, d4] }
  | _ => none }
def worldPlaysRow : OpenClaim := { program := "ytogmdoiecpihdaagreatdoor", sum := "c7ba5681a17e1ec1ac26c1e3a4c12e0d51a0cec0ec1731b40d190b0a4bbebc2c", func := "pinnace/pinnacelaw15.WorldPlays", spec := "worldPlays", inPlace := ["slices.overlaps[pinnace/api.Comp]"], unfollowed := true, recurses := true, named := ["pinnace/schema.rows"], plainKeys := false, apart := false, laid := [("pinnace/schema.rows", laid_pinnace_schema_rows)] }
def WorldPlaysSaid : Prop := worldPlaysRow.holds Tryz.pinned (OpenSpec.ofChange worldPlaysSpec)

/-- ITS FALSE NEIGHBOUR: 'it returns false'. Refute it at one input. -/
def worldPlaysWrong : ChangeSpec := { name := "worldPlays", fn := fun _ => fun
  | [d1, d2, d3, d4] => { results := [.lit (.bool false)], args := [d1, d2, d3, d4] }
  | _ => none }
def WorldPlaysWrongFalsely : Prop := worldPlaysRow.holds Tryz.pinned (OpenSpec.ofChange worldPlaysWrong)

/-- 'pinnacelaw18.SnapTakes': WHATEVER THE INPUT: true; the input reads as it did. -/
def snapTakesSpec : ChangeSpec := { name := "snapTakes", fn := fun _ => fun
  | [d1, d2] => { results := [.lit (.bool true)], args := [d1, d2] }
  | _ => none }
def snapTakesRow : OpenClaim := { program := "ytogmdoiecpihdaagreatdoor", sum := "c7ba5681a17e1ec1ac26c1e3a4c12e0d51a0cec0ec1731b40d190b0a4bbebc2c", func := "pinnace/pinnacelaw18.SnapTakes", spec := "snapTakes", inPlace := ["slices.overlaps[pinnace/api.Comp]"], unfollowed := true, recurses := true, named := ["pinnace/schema.rows"], plainKeys := false, apart := false, laid := [("pinnace/schema.rows", laid_pinnace_schema_rows)] }
def SnapTakesSaid : Prop := snapTakesRow.holds Tryz.pinned (OpenSpec.ofChange snapTakesSpec)

/-- ITS FALSE NEIGHBOUR: 'it returns false'. Refute it at one input. -/
def snapTakesWrong : ChangeSpec := { name := "snapTakes", fn := fun _ => fun
  | [d1, d2] => { results := [.lit (.bool false)], args := [d1, d2] }
  | _ => none }
def SnapTakesWrongFalsely : Prop := snapTakesRow.holds Tryz.pinned (OpenSpec.ofChange snapTakesWrong)

/-- 'pinnacelaw18.SnapDirect': WHATEVER THE INPUT: true; the input reads as it did. -/
def snapDirectSpec : ChangeSpec := { name := "snapDirect", fn := fun _ => fun
  | [d1, d2] => { results := [.lit (.bool true)], args := [d1, d2] }
  | _ => none }
def snapDirectRow : OpenClaim := { program := "ytogmdoiecpihdaagreatdoor", sum := "c7ba5681a17e1ec1ac26c1e3a4c12e0d51a0cec0ec1731b40d190b0a4bbebc2c", func := "pinnace/pinnacelaw18.SnapDirect", spec := "snapDirect", inPlace := ["slices.overlaps[pinnace/api.Comp]"], unfollowed := true, recurses := true, named := ["pinnace/schema.rows"], plainKeys := false, apart := false, laid := [("pinnace/schema.rows", laid_pinnace_schema_rows)] }
def SnapDirectSaid : Prop := snapDirectRow.holds Tryz.pinned (OpenSpec.ofChange snapDirectSpec)

/-- ITS FALSE NEIGHBOUR: 'it returns false'. Refute it at one input. -/
def snapDirectWrong : ChangeSpec := { name := "snapDirect", fn := fun _ => fun
  | [d1, d2] => { results := [.lit (.bool false)], args := [d1, d2] }
  | _ => none }
def SnapDirectWrongFalsely : Prop := snapDirectRow.holds Tryz.pinned (OpenSpec.ofChange snapDirectWrong)

/-- 'pinnacelaw18.SnapIDs': WHATEVER THE INPUT: true; the input reads as it did. -/
def snapIDsSpec : ChangeSpec := { name := "snapIDs", fn := fun _ => fun
  | [d] => { results := [.lit (.bool true)], args := [d] }
  | _ => none }
def snapIDsRow : OpenClaim := { program := "ytogmdoiecpihdaagreatdoor", sum := "c7ba5681a17e1ec1ac26c1e3a4c12e0d51a0cec0ec1731b40d190b0a4bbebc2c", func := "pinnace/pinnacelaw18.SnapIDs", spec := "snapIDs", inPlace := ["slices.overlaps[pinnace/api.Comp]"], unfollowed := true, recurses := true, named := ["pinnace/schema.rows"], plainKeys := false, apart := false, laid := [("pinnace/schema.rows", laid_pinnace_schema_rows)] }
def SnapIDsSaid : Prop := snapIDsRow.holds Tryz.pinned (OpenSpec.ofChange snapIDsSpec)

/-- ITS FALSE NEIGHBOUR: 'it returns false'. Refute it at one input. -/
def snapIDsWrong : ChangeSpec := { name := "snapIDs", fn := fun _ => fun
  | [d] => { results := [.lit (.bool false)], args := [d] }
  | _ => none }
def SnapIDsWrongFalsely : Prop := snapIDsRow.holds Tryz.pinned (OpenSpec.ofChange snapIDsWrong)

/- THE SECOND FORM. 'bulk': how many values and letters a reading holds, each counted each time it is reached (what is shared counts as often as it is met; a slice's spare places count too). A statement '..UptoSaid' is the law's where the arguments, and the package variables that the reading takes, are together of bulk at most 1048576: NARROWER than '..Said'. Prove '..Said' where nothing that the law and all that it calls make is longer than what came in: it says more and counts as full. Else prove '..UptoSaid'. A law counts once. -/
mutual
def uptoBulk {H : Type} : DataW H → Nat
  | .lit (.string bytes) => bytes.length + 1
  | .lit _ => 1
  | .nil => 1
  | .ptr d => uptoBulk d + 1
  | .slice elems spare => uptoBulkAll elems + uptoBulkAll spare + 1
  | .agg parts => uptoBulkAll parts + 1
  | .iface _ d => uptoBulk d + 1
  | .map entries => uptoBulkEntries entries + 1
  | .held _ => 1
def uptoBulkAll {H : Type} : List (DataW H) → Nat
  | [] => 0
  | d :: r => uptoBulk d + uptoBulkAll r
def uptoBulkEntries {H : Type} : List (Lit × DataW H) → Nat
  | [] => 0
  | x :: r => uptoBulkEntry x + uptoBulkEntries r
def uptoBulkEntry {H : Type} : Lit × DataW H → Nat
  | (.string bytes, d) => bytes.length + uptoBulk d + 1
  | (_, d) => uptoBulk d + 1
 end
def uptoSmall : (H : Type) → List (DataW H) → Bool := fun _ ds => decide (uptoBulkAll ds ≤ 1048576)
def OpenSpec.upto (s : _root_.Go.ChangeSpec) : _root_.Go.OpenSpec := { _root_.Go.OpenSpec.ofChange s with cond := some uptoSmall }

/-- 'pinnacelaw15.WorldPlays', WHERE WHAT IT READS IS OF BULK AT MOST 1048576: true; the input reads as it did. -/
def worldPlaysUptoRow : OpenClaim := { program := "ytogmdoiecpihdaagreatdoor", sum := "c7ba5681a17e1ec1ac26c1e3a4c12e0d51a0cec0ec1731b40d190b0a4bbebc2c", func := "pinnace/pinnacelaw15.WorldPlays", spec := "worldPlays", inPlace := ["slices.overlaps[pinnace/api.Comp]"], unfollowed := true, recurses := true, named := ["pinnace/schema.rows"], plainKeys := false, apart := false, laid := [("pinnace/schema.rows", laid_pinnace_schema_rows)], narrowed := true }
def WorldPlaysUptoSaid : Prop := worldPlaysUptoRow.holds Tryz.pinned (OpenSpec.upto worldPlaysSpec)

/-- 'pinnacelaw18.SnapTakes', WHERE WHAT IT READS IS OF BULK AT MOST 1048576: true; the input reads as it did. -/
def snapTakesUptoRow : OpenClaim := { program := "ytogmdoiecpihdaagreatdoor", sum := "c7ba5681a17e1ec1ac26c1e3a4c12e0d51a0cec0ec1731b40d190b0a4bbebc2c", func := "pinnace/pinnacelaw18.SnapTakes", spec := "snapTakes", inPlace := ["slices.overlaps[pinnace/api.Comp]"], unfollowed := true, recurses := true, named := ["pinnace/schema.rows"], plainKeys := false, apart := false, laid := [("pinnace/schema.rows", laid_pinnace_schema_rows)], narrowed := true }
def SnapTakesUptoSaid : Prop := snapTakesUptoRow.holds Tryz.pinned (OpenSpec.upto snapTakesSpec)

/-- 'pinnacelaw18.SnapDirect', WHERE WHAT IT READS IS OF BULK AT MOST 1048576: true; the input reads as it did. -/
def snapDirectUptoRow : OpenClaim := { program := "ytogmdoiecpihdaagreatdoor", sum := "c7ba5681a17e1ec1ac26c1e3a4c12e0d51a0cec0ec1731b40d190b0a4bbebc2c", func := "pinnace/pinnacelaw18.SnapDirect", spec := "snapDirect", inPlace := ["slices.overlaps[pinnace/api.Comp]"], unfollowed := true, recurses := true, named := ["pinnace/schema.rows"], plainKeys := false, apart := false, laid := [("pinnace/schema.rows", laid_pinnace_schema_rows)], narrowed := true }
def SnapDirectUptoSaid : Prop := snapDirectUptoRow.holds Tryz.pinned (OpenSpec.upto snapDirectSpec)

/-- 'pinnacelaw18.SnapIDs', WHERE WHAT IT READS IS OF BULK AT MOST 1048576: true; the input reads as it did. -/
def snapIDsUptoRow : OpenClaim := { program := "ytogmdoiecpihdaagreatdoor", sum := "c7ba5681a17e1ec1ac26c1e3a4c12e0d51a0cec0ec1731b40d190b0a4bbebc2c", func := "pinnace/pinnacelaw18.SnapIDs", spec := "snapIDs", inPlace := ["slices.overlaps[pinnace/api.Comp]"], unfollowed := true, recurses := true, named := ["pinnace/schema.rows"], plainKeys := false, apart := false, laid := [("pinnace/schema.rows", laid_pinnace_schema_rows)], narrowed := true }
def SnapIDsUptoSaid : Prop := snapIDsUptoRow.holds Tryz.pinned (OpenSpec.upto snapIDsSpec)

end Rows
end Go.Proofs.YtogmdoiecpihdaaGreatDoor
