/-
  DiffChain: what its row tells of the program, part by part.
-/
import Derived.Test.YtlkfmppckhjapaaDoorSc
namespace Go.Proofs.YtlkfmppckhjapaaDoor
open Go.ChangeShapes Go.WideShapes Go.ChangeAt Go.RowKit
set_option linter.unusedVariables false
set_option maxRecDepth 100000
theorem diffChain_q1 : (Rows.diffChainUptoRow.inPlace == Tryd.prog.inPlace 5) = true := by kernel_rfl
theorem diffChain_q2 : (Rows.diffChainUptoRow.unfollowed == Tryd.prog.unfollowed 5) = true := by kernel_rfl
theorem diffChain_q3 : (Rows.diffChainUptoRow.recurses == Tryd.prog.recurses 5) = true := by kernel_rfl
theorem diffChain_q4 : (Rows.diffChainUptoRow.named == Tryd.prog.varsNamed 5) = true := by kernel_rfl
theorem diffChain_closed : joinedFacts Tryd.prog 5 Tryd.f5 (Rows.OpenSpec.upto Rows.diffChainSpec).bare Rows.diffChainUptoRow = true := by
  unfold joinedFacts
  rw [diffChain_q1, diffChain_q2, diffChain_q3, diffChain_q4]
  kernel_rfl
end Go.Proofs.YtlkfmppckhjapaaDoor
