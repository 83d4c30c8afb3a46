/-
  NARROWER THAN 'FOR EVERY INPUT', by the rows' own cells (each row's printed sentence says how): DiffPatches: laid.
  DERIVED. THE GIVEN ROWS OF THIS SEAT. 1 by the template 'for every input the law returns true; each argument reads behind the call as it read before'; 0 by the template 'total and deterministic' (their statements: YtkjanpjlpieaoaaDoorTotals.lean).
  GIVEN WITH THE SEED: the statements are not yours to turn. If you find one false, say at which input.
  Laid BY PROGRAM, IN A SANDBOX (cutbox-rows.mjs): the forced cells as the released guide's own fill.sh prints them over the translation 38513176f9ca47ab… (all of the seat's roots in one cut). By AI agents, Wed Nov 11 2026. No macro, syntax, notation, axiom, sorry.
-/
import Derived.Test.YtkjanpjlpieaoaaDoorChecked
import GoSem.Claim
import GoSem.ClaimJoined
import GoSem.ClaimMapViews
import Derived.JoinedTies
import Derived.KernelRfl
namespace Go.Proofs.YtkjanpjlpieaoaaDoor
/- THE CELL 'sum', in the pinned program and in every row, IS THE sha256 OF THE DUMP (.gsa) THAT YtkjanpjlpieaoaaDoorProg.lean LOADS. Nothing in Lean hashes anything: it is a label: what it is worth is what the hold of that sum in a sandbox is worth. -/
noncomputable def Tryd.pinned : Pinned := { name := "ytkjanpjlpieaoaadoor", sum := "38513176f9ca47ab78f129f581716716ce79302cb5667e8e179fff868d784630", checked := Tryd.checked }
namespace Rows
def none {H : Type} : Left H := { results := [], args := [] }

/- WHAT THE LISTED PACKAGE-LEVEL VARIABLES READ AS WHEN THE CALL BEGINS. Each datum BY PROGRAM (the guide's laid-datum.mjs) off the statement by which the dump's own 'gosem.cut.vars' lays the variable. In a bare row this is a premise. The card (YtkjanpjlpieaoaaDoorCards.lean) ties it to the program's text. -/
def laid_pinnace_schema_rows {H : Type} : DataW H := .agg [.agg [.lit (.string [112, 111, 115]), .lit (.bool true), .lit (.int .i64 2), .agg [.agg [.lit (.string [120]), .lit (.int .i32 (-524288)), .lit (.int .i32 524287)], .agg [.lit (.string [121]), .lit (.int .i32 (-524288)), .lit (.int .i32 524287)], .agg [.lit (.string []), .lit (.int .i32 0), .lit (.int .i32 0)]]], .agg [.lit (.string [118, 101, 108]), .lit (.bool true), .lit (.int .i64 2), .agg [.agg [.lit (.string [100, 120]), .lit (.int .i32 (-32768)), .lit (.int .i32 32767)], .agg [.lit (.string [100, 121]), .lit (.int .i32 (-32768)), .lit (.int .i32 32767)], .agg [.lit (.string []), .lit (.int .i32 0), .lit (.int .i32 0)]]], .agg [.lit (.string [108, 105, 102, 101]), .lit (.bool true), .lit (.int .i64 1), .agg [.agg [.lit (.string [108, 101, 102, 116]), .lit (.int .i32 0), .lit (.int .i32 4095)], .agg [.lit (.string []), .lit (.int .i32 0), .lit (.int .i32 0)], .agg [.lit (.string []), .lit (.int .i32 0), .lit (.int .i32 0)]]], .agg [.lit (.string [98, 111, 100, 121]), .lit (.bool true), .lit (.int .i64 3), .agg [.agg [.lit (.string [115, 104, 97, 112, 101]), .lit (.int .i32 0), .lit (.int .i32 15)], .agg [.lit (.string [104, 112]), .lit (.int .i32 0), .lit (.int .i32 1000)], .agg [.lit (.string [115, 105, 122, 101]), .lit (.int .i32 1), .lit (.int .i32 100)]]], .agg [.lit (.string [116, 97, 103]), .lit (.bool true), .lit (.int .i64 3), .agg [.agg [.lit (.string [116, 101, 97, 109]), .lit (.int .i32 0), .lit (.int .i32 7)], .agg [.lit (.string [99, 111, 108, 111, 114]), .lit (.int .i32 0), .lit (.int .i32 255)], .agg [.lit (.string [102, 108, 97, 103, 115]), .lit (.int .i32 0), .lit (.int .i32 31)]]], .agg [.lit (.string [115, 112, 97, 119, 110]), .lit (.bool false), .lit (.int .i64 3), .agg [.agg [.lit (.string [101, 118, 101, 114, 121]), .lit (.int .i32 1), .lit (.int .i32 255)], .agg [.lit (.string [108, 101, 102, 116]), .lit (.int .i32 0), .lit (.int .i32 254)], .agg [.lit (.string [115, 104, 97, 112, 101]), .lit (.int .i32 0), .lit (.int .i32 15)]]]]

/-- 'pinnacelaw19.DiffPatches': WHATEVER THE INPUT: true; the input reads as it did. -/
def diffPatchesSpec : ChangeSpec := { name := "diffPatches", fn := fun _ => fun
  | [d1, d2] => { results := [.lit (.bool true)], args := [d1, d2] }
  | _ => none }
def diffPatchesRow : OpenClaim := { program := "ytkjanpjlpieaoaadoor", sum := "38513176f9ca47ab78f129f581716716ce79302cb5667e8e179fff868d784630", func := "pinnace/pinnacelaw19.DiffPatches", spec := "diffPatches", unfollowed := true, recurses := true, named := ["pinnace/schema.rows"], apart := false, laid := [("pinnace/schema.rows", laid_pinnace_schema_rows)] }
def DiffPatchesSaid : Prop := diffPatchesRow.holds Tryd.pinned (OpenSpec.ofChange diffPatchesSpec)

/-- ITS FALSE NEIGHBOUR: 'it returns false'. Refute it at one input. -/
def diffPatchesWrong : ChangeSpec := { name := "diffPatches", fn := fun _ => fun
  | [d1, d2] => { results := [.lit (.bool false)], args := [d1, d2] }
  | _ => none }
def DiffPatchesWrongFalsely : Prop := diffPatchesRow.holds Tryd.pinned (OpenSpec.ofChange diffPatchesWrong)

/- THE SECOND FORM. 'bulk': how many values and letters a reading holds, each counted each time it is reached (what is shared counts as often as it is met; a slice's spare places count too). A statement '..UptoSaid' is the law's where the arguments, and the package variables that the reading takes, are together of bulk at most 1048576: NARROWER than '..Said'. Prove '..Said' where nothing that the law and all that it calls make is longer than what came in: it says more and counts as full. Else prove '..UptoSaid'. A law counts once. -/
mutual
def uptoBulk {H : Type} : DataW H → Nat
  | .lit (.string bytes) => bytes.length + 1
  | .lit _ => 1
  | .nil => 1
  | .ptr d => uptoBulk d + 1
  | .slice elems spare => uptoBulkAll elems + uptoBulkAll spare + 1
  | .agg parts => uptoBulkAll parts + 1
  | .iface _ d => uptoBulk d + 1
  | .map entries => uptoBulkEntries entries + 1
  | .held _ => 1
def uptoBulkAll {H : Type} : List (DataW H) → Nat
  | [] => 0
  | d :: r => uptoBulk d + uptoBulkAll r
def uptoBulkEntries {H : Type} : List (Lit × DataW H) → Nat
  | [] => 0
  | x :: r => uptoBulkEntry x + uptoBulkEntries r
def uptoBulkEntry {H : Type} : Lit × DataW H → Nat
  | (.string bytes, d) => bytes.length + uptoBulk d + 1
  | (_, d) => uptoBulk d + 1
 end
def uptoSmall : (H : Type) → List (DataW H) → Bool := fun _ ds => decide (uptoBulkAll ds ≤ 1048576)
def OpenSpec.upto (s : _root_.Go.ChangeSpec) : _root_.Go.OpenSpec := { _root_.Go.OpenSpec.ofChange s with cond := some uptoSmall }

/-- 'pinnacelaw19.DiffPatches', WHERE WHAT IT READS IS OF BULK AT MOST 1048576: true; the input reads as it did. -/
def diffPatchesUptoRow : OpenClaim := { program := "ytkjanpjlpieaoaadoor", sum := "38513176f9ca47ab78f129f581716716ce79302cb5667e8e179fff868d784630", func := "pinnace/pinnacelaw19.DiffPatches", spec := "diffPatches", unfollowed := true, recurses := true, named := ["pinnace/schema.rows"], apart := false, laid := [("pinnace/schema.rows", laid_pinnace_schema_rows)], narrowed := true }
def DiffPatchesUptoSaid : Prop := diffPatchesUptoRow.holds Tryd.pinned (OpenSpec.upto diffPatchesSpec)

end Rows
end Go.Proofs.YtkjanpjlpieaoaaDoor
