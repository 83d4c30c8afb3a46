/-
  DiffParts: what its row tells of the program, part by part.
-/
import Derived.Test.YtgflloebebggnaaDoorSc
namespace Go.Proofs.YtgflloebebggnaaDoor
open Go.ChangeShapes Go.WideShapes Go.ChangeAt Go.RowKit
set_option linter.unusedVariables false
set_option maxRecDepth 100000
theorem diffParts_q1 : (Rows.diffPartsUptoRow.inPlace == Tryd.prog.inPlace 5) = true := by kernel_rfl
theorem diffParts_q2 : (Rows.diffPartsUptoRow.unfollowed == Tryd.prog.unfollowed 5) = true := by kernel_rfl
theorem diffParts_q3 : (Rows.diffPartsUptoRow.recurses == Tryd.prog.recurses 5) = true := by kernel_rfl
theorem diffParts_q4 : (Rows.diffPartsUptoRow.named == Tryd.prog.varsNamed 5) = true := by kernel_rfl
theorem diffParts_closed : joinedFacts Tryd.prog 5 Tryd.f5 (Rows.OpenSpec.upto Rows.diffPartsSpec).bare Rows.diffPartsUptoRow = true := by
  unfold joinedFacts
  rw [diffParts_q1, diffParts_q2, diffParts_q3, diffParts_q4]
  kernel_rfl
end Go.Proofs.YtgflloebebggnaaDoor
