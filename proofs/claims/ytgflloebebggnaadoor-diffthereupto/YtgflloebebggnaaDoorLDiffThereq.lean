/-
  DiffThere: what its row tells of the program, part by part.
-/
import Derived.Test.YtgflloebebggnaaDoorSc
namespace Go.Proofs.YtgflloebebggnaaDoor
open Go.ChangeShapes Go.WideShapes Go.ChangeAt Go.RowKit
set_option linter.unusedVariables false
set_option maxRecDepth 100000
theorem diffThere_q1 : (Rows.diffThereUptoRow.inPlace == Tryd.prog.inPlace 3) = true := by kernel_rfl
theorem diffThere_q2 : (Rows.diffThereUptoRow.unfollowed == Tryd.prog.unfollowed 3) = true := by kernel_rfl
theorem diffThere_q3 : (Rows.diffThereUptoRow.recurses == Tryd.prog.recurses 3) = true := by kernel_rfl
theorem diffThere_q4 : (Rows.diffThereUptoRow.named == Tryd.prog.varsNamed 3) = true := by kernel_rfl
theorem diffThere_closed : joinedFacts Tryd.prog 3 Tryd.f3 (Rows.OpenSpec.upto Rows.diffThereSpec).bare Rows.diffThereUptoRow = true := by
  unfold joinedFacts
  rw [diffThere_q1, diffThere_q2, diffThere_q3, diffThere_q4]
  kernel_rfl
end Go.Proofs.YtgflloebebggnaaDoor
