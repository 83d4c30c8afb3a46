/-
  NARROWER THAN 'FOR EVERY INPUT', by the rows' own cells (each row's printed sentence says how): FrameSums: laid · FrameSeals: laid · FrameOpens: laid · FrameBursts: laid · FrameLimits: laid · FrameApart: laid.
  DERIVED. THE GIVEN ROWS OF THIS SEAT. 6 by the template 'for every input the law returns true; each argument reads behind the call as it read before'; 0 by the template 'total and deterministic' (their statements: YtekdjebehieekaaDoorTotals.lean).
  GIVEN WITH THE SEED: the statements are not yours to turn. If you find one false, say at which input.
  Laid BY PROGRAM, IN A SANDBOX (cutbox-rows.mjs): the forced cells as the released guide's own fill.sh prints them over the translation 1af9df8d006fd1f6… (all of the seat's roots in one cut). By AI agents, Wed Nov 11 2026. No macro, syntax, notation, axiom, sorry.
-/
import Derived.Test.YtekdjebehieekaaDoorChecked
import GoSem.Claim
import GoSem.ClaimJoined
import GoSem.ClaimMapViews
import Derived.JoinedTies
import Derived.KernelRfl
namespace Go.Proofs.YtekdjebehieekaaDoor
/- THE CELL 'sum', in the pinned program and in every row, IS THE sha256 OF THE DUMP (.gsa) THAT YtekdjebehieekaaDoorProg.lean LOADS. Nothing in Lean hashes anything: it is a label: what it is worth is what the hold of that sum in a sandbox is worth. -/
noncomputable def Tryd.pinned : Pinned := { name := "ytekdjebehieekaadoor", sum := "1af9df8d006fd1f693e66a9ca2728994667a80b8a264e20d3fd6ad1c6f722892", checked := Tryd.checked }
namespace Rows
def none {H : Type} : Left H := { results := [], args := [] }

/- WHAT THE LISTED PACKAGE-LEVEL VARIABLES READ AS WHEN THE CALL BEGINS. Each datum BY PROGRAM (the guide's laid-datum.mjs) off the statement by which the dump's own 'gosem.cut.vars' lays the variable. In a bare row this is a premise. The card (YtekdjebehieekaaDoorCards.lean) ties it to the program's text. -/
def laid_pinnace_frame_steps {H : Type} : DataW H := .agg [.lit (.int .u32 0), .lit (.int .u32 498536548), .lit (.int .u32 997073096), .lit (.int .u32 651767980), .lit (.int .u32 1994146192), .lit (.int .u32 1802195444), .lit (.int .u32 1303535960), .lit (.int .u32 1342533948), .lit (.int .u32 3988292384), .lit (.int .u32 4027552580), .lit (.int .u32 3604390888), .lit (.int .u32 3412177804), .lit (.int .u32 2607071920), .lit (.int .u32 2262029012), .lit (.int .u32 2685067896), .lit (.int .u32 3183342108)]

/-- 'pinnacelaw03.FrameSums': WHATEVER THE INPUT: true; the input reads as it did. -/
def frameSumsSpec : ChangeSpec := { name := "frameSums", fn := fun _ => fun
  | [d] => { results := [.lit (.bool true)], args := [d] }
  | _ => none }
def frameSumsRow : OpenClaim := { program := "ytekdjebehieekaadoor", sum := "1af9df8d006fd1f693e66a9ca2728994667a80b8a264e20d3fd6ad1c6f722892", func := "pinnace/pinnacelaw03.FrameSums", spec := "frameSums", named := ["pinnace/frame.steps"], apart := false, laid := [("pinnace/frame.steps", laid_pinnace_frame_steps)] }
def FrameSumsSaid : Prop := frameSumsRow.holds Tryd.pinned (OpenSpec.ofChange frameSumsSpec)

/-- ITS FALSE NEIGHBOUR: 'it returns false'. Refute it at one input. -/
def frameSumsWrong : ChangeSpec := { name := "frameSums", fn := fun _ => fun
  | [d] => { results := [.lit (.bool false)], args := [d] }
  | _ => none }
def FrameSumsWrongFalsely : Prop := frameSumsRow.holds Tryd.pinned (OpenSpec.ofChange frameSumsWrong)

/-- 'pinnacelaw03.FrameSeals': WHATEVER THE INPUT: true; the input reads as it did. -/
def frameSealsSpec : ChangeSpec := { name := "frameSeals", fn := fun _ => fun
  | [d] => { results := [.lit (.bool true)], args := [d] }
  | _ => none }
def frameSealsRow : OpenClaim := { program := "ytekdjebehieekaadoor", sum := "1af9df8d006fd1f693e66a9ca2728994667a80b8a264e20d3fd6ad1c6f722892", func := "pinnace/pinnacelaw03.FrameSeals", spec := "frameSeals", named := ["pinnace/frame.steps"], apart := false, laid := [("pinnace/frame.steps", laid_pinnace_frame_steps)] }
def FrameSealsSaid : Prop := frameSealsRow.holds Tryd.pinned (OpenSpec.ofChange frameSealsSpec)

/-- ITS FALSE NEIGHBOUR: 'it returns false'. Refute it at one input. -/
def frameSealsWrong : ChangeSpec := { name := "frameSeals", fn := fun _ => fun
  | [d] => { results := [.lit (.bool false)], args := [d] }
  | _ => none }
def FrameSealsWrongFalsely : Prop := frameSealsRow.holds Tryd.pinned (OpenSpec.ofChange frameSealsWrong)

/-- 'pinnacelaw03.FrameOpens': WHATEVER THE INPUT: true; the input reads as it did. -/
def frameOpensSpec : ChangeSpec := { name := "frameOpens", fn := fun _ => fun
  | [d] => { results := [.lit (.bool true)], args := [d] }
  | _ => none }
def frameOpensRow : OpenClaim := { program := "ytekdjebehieekaadoor", sum := "1af9df8d006fd1f693e66a9ca2728994667a80b8a264e20d3fd6ad1c6f722892", func := "pinnace/pinnacelaw03.FrameOpens", spec := "frameOpens", named := ["pinnace/frame.steps"], apart := false, laid := [("pinnace/frame.steps", laid_pinnace_frame_steps)] }
def FrameOpensSaid : Prop := frameOpensRow.holds Tryd.pinned (OpenSpec.ofChange frameOpensSpec)

/-- ITS FALSE NEIGHBOUR: 'it returns false'. Refute it at one input. -/
def frameOpensWrong : ChangeSpec := { name := "frameOpens", fn := fun _ => fun
  | [d] => { results := [.lit (.bool false)], args := [d] }
  | _ => none }
def FrameOpensWrongFalsely : Prop := frameOpensRow.holds Tryd.pinned (OpenSpec.ofChange frameOpensWrong)

/-- 'pinnacelaw03.FrameBursts': WHATEVER THE INPUT: true; the input reads as it did. -/
def frameBurstsSpec : ChangeSpec := { name := "frameBursts", fn := fun _ => fun
  | [d1, d2, d3] => { results := [.lit (.bool true)], args := [d1, d2, d3] }
  | _ => none }
def frameBurstsRow : OpenClaim := { program := "ytekdjebehieekaadoor", sum := "1af9df8d006fd1f693e66a9ca2728994667a80b8a264e20d3fd6ad1c6f722892", func := "pinnace/pinnacelaw03.FrameBursts", spec := "frameBursts", named := ["pinnace/frame.steps"], apart := false, laid := [("pinnace/frame.steps", laid_pinnace_frame_steps)] }
def FrameBurstsSaid : Prop := frameBurstsRow.holds Tryd.pinned (OpenSpec.ofChange frameBurstsSpec)

/-- ITS FALSE NEIGHBOUR: 'it returns false'. Refute it at one input. -/
def frameBurstsWrong : ChangeSpec := { name := "frameBursts", fn := fun _ => fun
  | [d1, d2, d3] => { results := [.lit (.bool false)], args := [d1, d2, d3] }
  | _ => none }
def FrameBurstsWrongFalsely : Prop := frameBurstsRow.holds Tryd.pinned (OpenSpec.ofChange frameBurstsWrong)

/-- 'pinnacelaw03.FrameLimits': WHATEVER THE INPUT: true; the input reads as it did. -/
def frameLimitsSpec : ChangeSpec := { name := "frameLimits", fn := fun _ => fun
  | [d1, d2] => { results := [.lit (.bool true)], args := [d1, d2] }
  | _ => none }
def frameLimitsRow : OpenClaim := { program := "ytekdjebehieekaadoor", sum := "1af9df8d006fd1f693e66a9ca2728994667a80b8a264e20d3fd6ad1c6f722892", func := "pinnace/pinnacelaw03.FrameLimits", spec := "frameLimits", named := ["pinnace/frame.steps"], apart := false, laid := [("pinnace/frame.steps", laid_pinnace_frame_steps)] }
def FrameLimitsSaid : Prop := frameLimitsRow.holds Tryd.pinned (OpenSpec.ofChange frameLimitsSpec)

/-- ITS FALSE NEIGHBOUR: 'it returns false'. Refute it at one input. -/
def frameLimitsWrong : ChangeSpec := { name := "frameLimits", fn := fun _ => fun
  | [d1, d2] => { results := [.lit (.bool false)], args := [d1, d2] }
  | _ => none }
def FrameLimitsWrongFalsely : Prop := frameLimitsRow.holds Tryd.pinned (OpenSpec.ofChange frameLimitsWrong)

/-- 'pinnacelaw03.FrameApart': WHATEVER THE INPUT: true; the input reads as it did. -/
def frameApartSpec : ChangeSpec := { name := "frameApart", fn := fun _ => fun
  | [d1, d2, d3] => { results := [.lit (.bool true)], args := [d1, d2, d3] }
  | _ => none }
def frameApartRow : OpenClaim := { program := "ytekdjebehieekaadoor", sum := "1af9df8d006fd1f693e66a9ca2728994667a80b8a264e20d3fd6ad1c6f722892", func := "pinnace/pinnacelaw03.FrameApart", spec := "frameApart", named := ["pinnace/frame.steps"], apart := false, laid := [("pinnace/frame.steps", laid_pinnace_frame_steps)] }
def FrameApartSaid : Prop := frameApartRow.holds Tryd.pinned (OpenSpec.ofChange frameApartSpec)

/-- ITS FALSE NEIGHBOUR: 'it returns false'. Refute it at one input. -/
def frameApartWrong : ChangeSpec := { name := "frameApart", fn := fun _ => fun
  | [d1, d2, d3] => { results := [.lit (.bool false)], args := [d1, d2, d3] }
  | _ => none }
def FrameApartWrongFalsely : Prop := frameApartRow.holds Tryd.pinned (OpenSpec.ofChange frameApartWrong)

/- THE SECOND FORM. 'bulk': how many values and letters a reading holds, each counted each time it is reached (what is shared counts as often as it is met; a slice's spare places count too). A statement '..UptoSaid' is the law's where the arguments, and the package variables that the reading takes, are together of bulk at most 1048576: NARROWER than '..Said'. Prove '..Said' where nothing that the law and all that it calls make is longer than what came in: it says more and counts as full. Else prove '..UptoSaid'. A law counts once. -/
mutual
def uptoBulk {H : Type} : DataW H → Nat
  | .lit (.string bytes) => bytes.length + 1
  | .lit _ => 1
  | .nil => 1
  | .ptr d => uptoBulk d + 1
  | .slice elems spare => uptoBulkAll elems + uptoBulkAll spare + 1
  | .agg parts => uptoBulkAll parts + 1
  | .iface _ d => uptoBulk d + 1
  | .map entries => uptoBulkEntries entries + 1
  | .held _ => 1
def uptoBulkAll {H : Type} : List (DataW H) → Nat
  | [] => 0
  | d :: r => uptoBulk d + uptoBulkAll r
def uptoBulkEntries {H : Type} : List (Lit × DataW H) → Nat
  | [] => 0
  | x :: r => uptoBulkEntry x + uptoBulkEntries r
def uptoBulkEntry {H : Type} : Lit × DataW H → Nat
  | (.string bytes, d) => bytes.length + uptoBulk d + 1
  | (_, d) => uptoBulk d + 1
 end
def uptoSmall : (H : Type) → List (DataW H) → Bool := fun _ ds => decide (uptoBulkAll ds ≤ 1048576)
def OpenSpec.upto (s : _root_.Go.ChangeSpec) : _root_.Go.OpenSpec := { _root_.Go.OpenSpec.ofChange s with cond := some uptoSmall }

/-- 'pinnacelaw03.FrameSums', WHERE WHAT IT READS IS OF BULK AT MOST 1048576: true; the input reads as it did. -/
def frameSumsUptoRow : OpenClaim := { program := "ytekdjebehieekaadoor", sum := "1af9df8d006fd1f693e66a9ca2728994667a80b8a264e20d3fd6ad1c6f722892", func := "pinnace/pinnacelaw03.FrameSums", spec := "frameSums", named := ["pinnace/frame.steps"], apart := false, laid := [("pinnace/frame.steps", laid_pinnace_frame_steps)], narrowed := true }
def FrameSumsUptoSaid : Prop := frameSumsUptoRow.holds Tryd.pinned (OpenSpec.upto frameSumsSpec)

/-- 'pinnacelaw03.FrameSeals', WHERE WHAT IT READS IS OF BULK AT MOST 1048576: true; the input reads as it did. -/
def frameSealsUptoRow : OpenClaim := { program := "ytekdjebehieekaadoor", sum := "1af9df8d006fd1f693e66a9ca2728994667a80b8a264e20d3fd6ad1c6f722892", func := "pinnace/pinnacelaw03.FrameSeals", spec := "frameSeals", named := ["pinnace/frame.steps"], apart := false, laid := [("pinnace/frame.steps", laid_pinnace_frame_steps)], narrowed := true }
def FrameSealsUptoSaid : Prop := frameSealsUptoRow.holds Tryd.pinned (OpenSpec.upto frameSealsSpec)

/-- 'pinnacelaw03.FrameOpens', WHERE WHAT IT READS IS OF BULK AT MOST 1048576: true; the input reads as it did. -/
def frameOpensUptoRow : OpenClaim := { program := "ytekdjebehieekaadoor", sum := "1af9df8d006fd1f693e66a9ca2728994667a80b8a264e20d3fd6ad1c6f722892", func := "pinnace/pinnacelaw03.FrameOpens", spec := "frameOpens", named := ["pinnace/frame.steps"], apart := false, laid := [("pinnace/frame.steps", laid_pinnace_frame_steps)], narrowed := true }
def FrameOpensUptoSaid : Prop := frameOpensUptoRow.holds Tryd.pinned (OpenSpec.upto frameOpensSpec)

/-- 'pinnacelaw03.FrameBursts', WHERE WHAT IT READS IS OF BULK AT MOST 1048576: true; the input reads as it did. -/
def frameBurstsUptoRow : OpenClaim := { program := "ytekdjebehieekaadoor", sum := "1af9df8d006fd1f693e66a9ca2728994667a80b8a264e20d3fd6ad1c6f722892", func := "pinnace/pinnacelaw03.FrameBursts", spec := "frameBursts", named := ["pinnace/frame.steps"], apart := false, laid := [("pinnace/frame.steps", laid_pinnace_frame_steps)], narrowed := true }
def FrameBurstsUptoSaid : Prop := frameBurstsUptoRow.holds Tryd.pinned (OpenSpec.upto frameBurstsSpec)

/-- 'pinnacelaw03.FrameLimits', WHERE WHAT IT READS IS OF BULK AT MOST 1048576: true; the input reads as it did. -/
def frameLimitsUptoRow : OpenClaim := { program := "ytekdjebehieekaadoor", sum := "1af9df8d006fd1f693e66a9ca2728994667a80b8a264e20d3fd6ad1c6f722892", func := "pinnace/pinnacelaw03.FrameLimits", spec := "frameLimits", named := ["pinnace/frame.steps"], apart := false, laid := [("pinnace/frame.steps", laid_pinnace_frame_steps)], narrowed := true }
def FrameLimitsUptoSaid : Prop := frameLimitsUptoRow.holds Tryd.pinned (OpenSpec.upto frameLimitsSpec)

/-- 'pinnacelaw03.FrameApart', WHERE WHAT IT READS IS OF BULK AT MOST 1048576: true; the input reads as it did. -/
def frameApartUptoRow : OpenClaim := { program := "ytekdjebehieekaadoor", sum := "1af9df8d006fd1f693e66a9ca2728994667a80b8a264e20d3fd6ad1c6f722892", func := "pinnace/pinnacelaw03.FrameApart", spec := "frameApart", named := ["pinnace/frame.steps"], apart := false, laid := [("pinnace/frame.steps", laid_pinnace_frame_steps)], narrowed := true }
def FrameApartUptoSaid : Prop := frameApartUptoRow.holds Tryd.pinned (OpenSpec.upto frameApartSpec)

end Rows
end Go.Proofs.YtekdjebehieekaaDoor
