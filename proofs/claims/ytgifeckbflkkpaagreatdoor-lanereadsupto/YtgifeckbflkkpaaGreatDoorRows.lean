/-
  NARROWER THAN 'FOR EVERY INPUT', by the rows' own cells (each row's printed sentence says how): PacketOpens: laid · PacketBodies: laid · LanePlays: laid · LaneBudget: laid · LaneReads: laid · LaneFull: laid.
  DERIVED. THE GIVEN ROWS OF THIS SEAT. 6 by the template 'for every input the law returns true; each argument reads behind the call as it read before'; 0 by the template 'total and deterministic' (their statements: YtgifeckbflkkpaaGreatDoorTotals.lean).
  GIVEN WITH THE SEED: the statements are not yours to turn. If you find one false, say at which input.
  Laid BY PROGRAM, IN A SANDBOX (cutbox-rows.mjs): the forced cells as the released guide's own fill.sh prints them over the translation 49c030aea1c186a0… (all of the seat's roots in one cut). By AI agents, Wed Nov 11 2026. No macro, syntax, notation, axiom, sorry.
-/
import Derived.Test.YtgifeckbflkkpaaGreatDoorChecked
import GoSem.Claim
import GoSem.ClaimJoined
import GoSem.ClaimMapViews
import Derived.JoinedTies
import Derived.KernelRfl
namespace Go.Proofs.YtgifeckbflkkpaaGreatDoor
/- THE CELL 'sum', in the pinned program and in every row, IS THE sha256 OF THE DUMP (.gsa) THAT YtgifeckbflkkpaaGreatDoorProg.lean LOADS. Nothing in Lean hashes anything: it is a label: what it is worth is what the hold of that sum in a sandbox is worth. -/
noncomputable def Tryz.pinned : Pinned := { name := "ytgifeckbflkkpaagreatdoor", sum := "49c030aea1c186a01b739b1833838d125df7010e822798b9b552ca1bd4f8d443", checked := Tryz.checked }
namespace Rows
def none {H : Type} : Left H := { results := [], args := [] }

/- WHAT THE LISTED PACKAGE-LEVEL VARIABLES READ AS WHEN THE CALL BEGINS. Each datum BY PROGRAM (the guide's laid-datum.mjs) off the statement by which the dump's own 'gosem.cut.vars' lays the variable. In a bare row this is a premise. The card (YtgifeckbflkkpaaGreatDoorCards.lean) ties it to the program's text. -/
def laid_pinnace_frame_steps {H : Type} : DataW H := .agg [.lit (.int .u32 0), .lit (.int .u32 498536548), .lit (.int .u32 997073096), .lit (.int .u32 651767980), .lit (.int .u32 1994146192), .lit (.int .u32 1802195444), .lit (.int .u32 1303535960), .lit (.int .u32 1342533948), .lit (.int .u32 3988292384), .lit (.int .u32 4027552580), .lit (.int .u32 3604390888), .lit (.int .u32 3412177804), .lit (.int .u32 2607071920), .lit (.int .u32 2262029012), .lit (.int .u32 2685067896), .lit (.int .u32 3183342108)]
def laid_pinnace_schema_rows {H : Type} : DataW H := .agg [.agg [.lit (.string [112, 111, 115]), .lit (.bool true), .lit (.int .i64 2), .agg [.agg [.lit (.string [120]), .lit (.int .i32 (-524288)), .lit (.int .i32 524287)], .agg [.lit (.string [121]), .lit (.int .i32 (-524288)), .lit (.int .i32 524287)], .agg [.lit (.string []), .lit (.int .i32 0), .lit (.int .i32 0)]]], .agg [.lit (.string [118, 101, 108]), .lit (.bool true), .lit (.int .i64 2), .agg [.agg [.lit (.string [100, 120]), .lit (.int .i32 (-32768)), .lit (.int .i32 32767)], .agg [.lit (.string [100, 121]), .lit (.int .i32 (-32768)), .lit (.int .i32 32767)], .agg [.lit (.string []), .lit (.int .i32 0), .lit (.int .i32 0)]]], .agg [.lit (.string [108, 105, 102, 101]), .lit (.bool true), .lit (.int .i64 1), .agg [.agg [.lit (.string [108, 101, 102, 116]), .lit (.int .i32 0), .lit (.int .i32 4095)], .agg [.lit (.string []), .lit (.int .i32 0), .lit (.int .i32 0)], .agg [.lit (.string []), .lit (.int .i32 0), .lit (.int .i32 0)]]], .agg [.lit (.string [98, 111, 100, 121]), .lit (.bool true), .lit (.int .i64 3), .agg [.agg [.lit (.string [115, 104, 97, 112, 101]), .lit (.int .i32 0), .lit (.int .i32 15)], .agg [.lit (.string [104, 112]), .lit (.int .i32 0), .lit (.int .i32 1000)], .agg [.lit (.string [115, 105, 122, 101]), .lit (.int .i32 1), .lit (.int .i32 100)]]], .agg [.lit (.string [116, 97, 103]), .lit (.bool true), .lit (.int .i64 3), .agg [.agg [.lit (.string [116, 101, 97, 109]), .lit (.int .i32 0), .lit (.int .i32 7)], .agg [.lit (.string [99, 111, 108, 111, 114]), .lit (.int .i32 0), .lit (.int .i32 255)], .agg [.lit (.string [102, 108, 97, 103, 115]), .lit (.int .i32 0), .lit (.int .i32 31)]]], .agg [.lit (.string [115, 112, 97, 119, 110]), .lit (.bool false), .lit (.int .i64 3), .agg [.agg [.lit (.string [101, 118, 101, 114, 121]), .lit (.int .i32 1), .lit (.int .i32 255)], .agg [.lit (.string [108, 101, 102, 116]), .lit (.int .i32 0), .lit (.int .i32 254)], .agg [.lit (.string [115, 104, 97, 112, 101]), .lit (.int .i32 0), .lit (.int .i32 15)]]]]

/-- 'pinnacelaw20.PacketOpens': WHATEVER THE INPUT: true; the input reads as it did. -/
def packetOpensSpec : ChangeSpec := { name := "packetOpens", fn := fun _ => fun
  | [d1, d2] => { results := [.lit (.bool true)], args := [d1, d2] }
  | _ => none }
def packetOpensRow : OpenClaim := { program := "ytgifeckbflkkpaagreatdoor", sum := "49c030aea1c186a01b739b1833838d125df7010e822798b9b552ca1bd4f8d443", func := "pinnace/pinnacelaw20.PacketOpens", spec := "packetOpens", unfollowed := true, recurses := true, named := ["pinnace/schema.rows", "pinnace/frame.steps"], apart := false, laid := [("pinnace/frame.steps", laid_pinnace_frame_steps), ("pinnace/schema.rows", laid_pinnace_schema_rows)] }
def PacketOpensSaid : Prop := packetOpensRow.holds Tryz.pinned (OpenSpec.ofChange packetOpensSpec)

/-- ITS FALSE NEIGHBOUR: 'it returns false'. Refute it at one input. -/
def packetOpensWrong : ChangeSpec := { name := "packetOpens", fn := fun _ => fun
  | [d1, d2] => { results := [.lit (.bool false)], args := [d1, d2] }
  | _ => none }
def PacketOpensWrongFalsely : Prop := packetOpensRow.holds Tryz.pinned (OpenSpec.ofChange packetOpensWrong)

/-- 'pinnacelaw20.PacketBodies': WHATEVER THE INPUT: true; the input reads as it did. -/
def packetBodiesSpec : ChangeSpec := { name := "packetBodies", fn := fun _ => fun
  | [d1, d2] => { results := [.lit (.bool true)], args := [d1, d2] }
  | _ => none }
def packetBodiesRow : OpenClaim := { program := "ytgifeckbflkkpaagreatdoor", sum := "49c030aea1c186a01b739b1833838d125df7010e822798b9b552ca1bd4f8d443", func := "pinnace/pinnacelaw20.PacketBodies", spec := "packetBodies", unfollowed := true, recurses := true, named := ["pinnace/schema.rows", "pinnace/frame.steps"], apart := false, laid := [("pinnace/frame.steps", laid_pinnace_frame_steps), ("pinnace/schema.rows", laid_pinnace_schema_rows)] }
def PacketBodiesSaid : Prop := packetBodiesRow.holds Tryz.pinned (OpenSpec.ofChange packetBodiesSpec)

/-- ITS FALSE NEIGHBOUR: 'it returns false'. Refute it at one input. -/
def packetBodiesWrong : ChangeSpec := { name := "packetBodies", fn := fun _ => fun
  | [d1, d2] => { results := [.lit (.bool false)], args := [d1, d2] }
  | _ => none }
def PacketBodiesWrongFalsely : Prop := packetBodiesRow.holds Tryz.pinned (OpenSpec.ofChange packetBodiesWrong)

/-- 'pinnacelaw21.LanePlays': WHATEVER THE INPUT: true; the input reads as it did. -/
def lanePlaysSpec : ChangeSpec := { name := "lanePlays", fn := fun _ => fun
  | [d1, d2, d3, d4, d5] => { results := [.lit (.bool true)], args := [d1, d2, d3, d4, d5] }
  | _ => none }
def lanePlaysRow : OpenClaim := { program := "ytgifeckbflkkpaagreatdoor", sum := "49c030aea1c186a01b739b1833838d125df7010e822798b9b552ca1bd4f8d443", func := "pinnace/pinnacelaw21.LanePlays", spec := "lanePlays", unfollowed := true, recurses := true, named := ["pinnace/schema.rows", "pinnace/frame.steps"], apart := false, laid := [("pinnace/frame.steps", laid_pinnace_frame_steps), ("pinnace/schema.rows", laid_pinnace_schema_rows)] }
def LanePlaysSaid : Prop := lanePlaysRow.holds Tryz.pinned (OpenSpec.ofChange lanePlaysSpec)

/-- ITS FALSE NEIGHBOUR: 'it returns false'. Refute it at one input. -/
def lanePlaysWrong : ChangeSpec := { name := "lanePlays", fn := fun _ => fun
  | [d1, d2, d3, d4, d5] => { results := [.lit (.bool false)], args := [d1, d2, d3, d4, d5] }
  | _ => none }
def LanePlaysWrongFalsely : Prop := lanePlaysRow.holds Tryz.pinned (OpenSpec.ofChange lanePlaysWrong)

/-- 'pinnacelaw21.LaneBudget': WHATEVER THE INPUT: true; the input reads as it did. -/
def laneBudgetSpec : ChangeSpec := { name := "laneBudget", fn := fun _ => fun
  | [d1, d2, d3] => { results := [.lit (.bool true)], args := [d1, d2, d3] }
  | _ => none }
def laneBudgetRow : OpenClaim := { program := "ytgifeckbflkkpaagreatdoor", sum := "49c030aea1c186a01b739b1833838d125df7010e822798b9b552ca1bd4f8d443", func := "pinnace/pinnacelaw21.LaneBudget", spec := "laneBudget", unfollowed := true, recurses := true, named := ["pinnace/schema.rows", "pinnace/frame.steps"], apart := false, laid := [("pinnace/frame.steps", laid_pinnace_frame_steps), ("pinnace/schema.rows", laid_pinnace_schema_rows)] }
def LaneBudgetSaid : Prop := laneBudgetRow.holds Tryz.pinned (OpenSpec.ofChange laneBudgetSpec)

/-- ITS FALSE NEIGHBOUR: 'it returns false'. Refute it at one input. -/
def laneBudgetWrong : ChangeSpec := { name := "laneBudget", fn := fun _ => fun
  | [d1, d2, d3] => { results := [.lit (.bool false)], args := [d1, d2, d3] }
  | _ => none }
def LaneBudgetWrongFalsely : Prop := laneBudgetRow.holds Tryz.pinned (OpenSpec.ofChange laneBudgetWrong)

/-- 'pinnacelaw21.LaneReads': WHATEVER THE INPUT: true; the input reads as it did. -/
def laneReadsSpec : ChangeSpec := { name := "laneReads", fn := fun _ => fun
  | [d1, d2, d3] => { results := [.lit (.bool true)], args := [d1, d2, d3] }
  | _ => none }
def laneReadsRow : OpenClaim := { program := "ytgifeckbflkkpaagreatdoor", sum := "49c030aea1c186a01b739b1833838d125df7010e822798b9b552ca1bd4f8d443", func := "pinnace/pinnacelaw21.LaneReads", spec := "laneReads", unfollowed := true, recurses := true, named := ["pinnace/schema.rows", "pinnace/frame.steps"], apart := false, laid := [("pinnace/frame.steps", laid_pinnace_frame_steps), ("pinnace/schema.rows", laid_pinnace_schema_rows)] }
def LaneReadsSaid : Prop := laneReadsRow.holds Tryz.pinned (OpenSpec.ofChange laneReadsSpec)

/-- ITS FALSE NEIGHBOUR: 'it returns false'. Refute it at one input. -/
def laneReadsWrong : ChangeSpec := { name := "laneReads", fn := fun _ => fun
  | [d1, d2, d3] => { results := [.lit (.bool false)], args := [d1, d2, d3] }
  | _ => none }
def LaneReadsWrongFalsely : Prop := laneReadsRow.holds Tryz.pinned (OpenSpec.ofChange laneReadsWrong)

/-- 'pinnacelaw21.LaneFull': WHATEVER THE INPUT: true; the input reads as it did. -/
def laneFullSpec : ChangeSpec := { name := "laneFull", fn := fun _ => fun
  | [d1, d2] => { results := [.lit (.bool true)], args := [d1, d2] }
  | _ => none }
def laneFullRow : OpenClaim := { program := "ytgifeckbflkkpaagreatdoor", sum := "49c030aea1c186a01b739b1833838d125df7010e822798b9b552ca1bd4f8d443", func := "pinnace/pinnacelaw21.LaneFull", spec := "laneFull", unfollowed := true, recurses := true, named := ["pinnace/schema.rows", "pinnace/frame.steps"], apart := false, laid := [("pinnace/frame.steps", laid_pinnace_frame_steps), ("pinnace/schema.rows", laid_pinnace_schema_rows)] }
def LaneFullSaid : Prop := laneFullRow.holds Tryz.pinned (OpenSpec.ofChange laneFullSpec)

/-- ITS FALSE NEIGHBOUR: 'it returns false'. Refute it at one input. -/
def laneFullWrong : ChangeSpec := { name := "laneFull", fn := fun _ => fun
  | [d1, d2] => { results := [.lit (.bool false)], args := [d1, d2] }
  | _ => none }
def LaneFullWrongFalsely : Prop := laneFullRow.holds Tryz.pinned (OpenSpec.ofChange laneFullWrong)

/- THE SECOND FORM. 'bulk': how many values and letters a reading holds, each counted each time it is reached (what is shared counts as often as it is met; a slice's spare places count too). A statement '..UptoSaid' is the law's where the arguments, and the package variables that the reading takes, are together of bulk at most 1048576: NARROWER than '..Said'. Prove '..Said' where nothing that the law and all that it calls make is longer than what came in: it says more and counts as full. Else prove '..UptoSaid'. A law counts once. -/
mutual
def uptoBulk {H : Type} : DataW H → Nat
  | .lit (.string bytes) => bytes.length + 1
  | .lit _ => 1
  | .nil => 1
  | .ptr d => uptoBulk d + 1
  | .slice elems spare => uptoBulkAll elems + uptoBulkAll spare + 1
  | .agg parts => uptoBulkAll parts + 1
  | .iface _ d => uptoBulk d + 1
  | .map entries => uptoBulkEntries entries + 1
  | .held _ => 1
def uptoBulkAll {H : Type} : List (DataW H) → Nat
  | [] => 0
  | d :: r => uptoBulk d + uptoBulkAll r
def uptoBulkEntries {H : Type} : List (Lit × DataW H) → Nat
  | [] => 0
  | x :: r => uptoBulkEntry x + uptoBulkEntries r
def uptoBulkEntry {H : Type} : Lit × DataW H → Nat
  | (.string bytes, d) => bytes.length + uptoBulk d + 1
  | (_, d) => uptoBulk d + 1
 end
def uptoSmall : (H : Type) → List (DataW H) → Bool := fun _ ds => decide (uptoBulkAll ds ≤ 1048576)
def OpenSpec.upto (s : _root_.Go.ChangeSpec) : _root_.Go.OpenSpec := { _root_.Go.OpenSpec.ofChange s with cond := some uptoSmall }

/-- 'pinnacelaw20.PacketOpens', WHERE WHAT IT READS IS OF BULK AT MOST 1048576: true; the input reads as it did. -/
def packetOpensUptoRow : OpenClaim := { program := "ytgifeckbflkkpaagreatdoor", sum := "49c030aea1c186a01b739b1833838d125df7010e822798b9b552ca1bd4f8d443", func := "pinnace/pinnacelaw20.PacketOpens", spec := "packetOpens", unfollowed := true, recurses := true, named := ["pinnace/schema.rows", "pinnace/frame.steps"], apart := false, laid := [("pinnace/frame.steps", laid_pinnace_frame_steps), ("pinnace/schema.rows", laid_pinnace_schema_rows)], narrowed := true }
def PacketOpensUptoSaid : Prop := packetOpensUptoRow.holds Tryz.pinned (OpenSpec.upto packetOpensSpec)

/-- 'pinnacelaw20.PacketBodies', WHERE WHAT IT READS IS OF BULK AT MOST 1048576: true; the input reads as it did. -/
def packetBodiesUptoRow : OpenClaim := { program := "ytgifeckbflkkpaagreatdoor", sum := "49c030aea1c186a01b739b1833838d125df7010e822798b9b552ca1bd4f8d443", func := "pinnace/pinnacelaw20.PacketBodies", spec := "packetBodies", unfollowed := true, recurses := true, named := ["pinnace/schema.rows", "pinnace/frame.steps"], apart := false, laid := [("pinnace/frame.steps", laid_pinnace_frame_steps), ("pinnace/schema.rows", laid_pinnace_schema_rows)], narrowed := true }
def PacketBodiesUptoSaid : Prop := packetBodiesUptoRow.holds Tryz.pinned (OpenSpec.upto packetBodiesSpec)

/-- 'pinnacelaw21.LanePlays', WHERE WHAT IT READS IS OF BULK AT MOST 1048576: true; the input reads as it did. -/
def lanePlaysUptoRow : OpenClaim := { program := "ytgifeckbflkkpaagreatdoor", sum := "49c030aea1c186a01b739b1833838d125df7010e822798b9b552ca1bd4f8d443", func := "pinnace/pinnacelaw21.LanePlays", spec := "lanePlays", unfollowed := true, recurses := true, named := ["pinnace/schema.rows", "pinnace/frame.steps"], apart := false, laid := [("pinnace/frame.steps", laid_pinnace_frame_steps), ("pinnace/schema.rows", laid_pinnace_schema_rows)], narrowed := true }
def LanePlaysUptoSaid : Prop := lanePlaysUptoRow.holds Tryz.pinned (OpenSpec.upto lanePlaysSpec)

/-- 'pinnacelaw21.LaneBudget', WHERE WHAT IT READS IS OF BULK AT MOST 1048576: true; the input reads as it did. -/
def laneBudgetUptoRow : OpenClaim := { program := "ytgifeckbflkkpaagreatdoor", sum := "49c030aea1c186a01b739b1833838d125df7010e822798b9b552ca1bd4f8d443", func := "pinnace/pinnacelaw21.LaneBudget", spec := "laneBudget", unfollowed := true, recurses := true, named := ["pinnace/schema.rows", "pinnace/frame.steps"], apart := false, laid := [("pinnace/frame.steps", laid_pinnace_frame_steps), ("pinnace/schema.rows", laid_pinnace_schema_rows)], narrowed := true }
def LaneBudgetUptoSaid : Prop := laneBudgetUptoRow.holds Tryz.pinned (OpenSpec.upto laneBudgetSpec)

/-- 'pinnacelaw21.LaneReads', WHERE WHAT IT READS IS OF BULK AT MOST 1048576: true; the input reads as it did. -/
def laneReadsUptoRow : OpenClaim := { program := "ytgifeckbflkkpaagreatdoor", sum := "49c030aea1c186a01b739b1833838d125df7010e822798b9b552ca1bd4f8d443", func := "pinnace/pinnacelaw21.LaneReads", spec := "laneReads", unfollowed := true, recurses := true, named := ["pinnace/schema.rows", "pinnace/frame.steps"], apart := false, laid := [("pinnace/frame.steps", laid_pinnace_frame_steps), ("pinnace/schema.rows", laid_pinnace_schema_rows)], narrowed := true }
def LaneReadsUptoSaid : Prop := laneReadsUptoRow.holds Tryz.pinned (OpenSpec.upto laneReadsSpec)

/-- 'pinnacelaw21.LaneFull', WHERE WHAT IT READS IS OF BULK AT MOST 1048576: true; the input reads as it did. -/
def laneFullUptoRow : OpenClaim := { program := "ytgifeckbflkkpaagreatdoor", sum := "49c030aea1c186a01b739b1833838d125df7010e822798b9b552ca1bd4f8d443", func := "pinnace/pinnacelaw21.LaneFull", spec := "laneFull", unfollowed := true, recurses := true, named := ["pinnace/schema.rows", "pinnace/frame.steps"], apart := false, laid := [("pinnace/frame.steps", laid_pinnace_frame_steps), ("pinnace/schema.rows", laid_pinnace_schema_rows)], narrowed := true }
def LaneFullUptoSaid : Prop := laneFullUptoRow.holds Tryz.pinned (OpenSpec.upto laneFullSpec)

end Rows
end Go.Proofs.YtgifeckbflkkpaaGreatDoor
