/-
  DiffWrong: what its row tells of the program, part by part.
-/
import Derived.Test.YtlkfmppckhjapaaDoorSc
namespace Go.Proofs.YtlkfmppckhjapaaDoor
open Go.ChangeShapes Go.WideShapes Go.ChangeAt Go.RowKit
set_option linter.unusedVariables false
set_option maxRecDepth 100000
theorem diffWrong_q1 : (Rows.diffWrongUptoRow.inPlace == Tryd.prog.inPlace 6) = true := by kernel_rfl
theorem diffWrong_q2 : (Rows.diffWrongUptoRow.unfollowed == Tryd.prog.unfollowed 6) = true := by kernel_rfl
theorem diffWrong_q3 : (Rows.diffWrongUptoRow.recurses == Tryd.prog.recurses 6) = true := by kernel_rfl
theorem diffWrong_q4 : (Rows.diffWrongUptoRow.named == Tryd.prog.varsNamed 6) = true := by kernel_rfl
theorem diffWrong_closed : joinedFacts Tryd.prog 6 Tryd.f6 (Rows.OpenSpec.upto Rows.diffWrongSpec).bare Rows.diffWrongUptoRow = true := by
  unfold joinedFacts
  rw [diffWrong_q1, diffWrong_q2, diffWrong_q3, diffWrong_q4]
  kernel_rfl
end Go.Proofs.YtlkfmppckhjapaaDoor
