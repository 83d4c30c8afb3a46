/-
  DiffPatches: what its row tells of the program, part by part.
-/
import Derived.Test.YtkjanpjlpieaoaaDoorQd02
namespace Go.Proofs.YtkjanpjlpieaoaaDoor
open Go.ChangeShapes Go.WideShapes Go.ChangeAt Go.RowKit
set_option linter.unusedVariables false
set_option maxRecDepth 100000
theorem diffPatches_q1 : (Rows.diffPatchesUptoRow.inPlace == Tryd.prog.inPlace 3) = true := by kernel_rfl
theorem diffPatches_q2 : (Rows.diffPatchesUptoRow.unfollowed == Tryd.prog.unfollowed 3) = true := by kernel_rfl
theorem diffPatches_q3 : (Rows.diffPatchesUptoRow.recurses == Tryd.prog.recurses 3) = true := by kernel_rfl
theorem diffPatches_q4 : (Rows.diffPatchesUptoRow.named == Tryd.prog.varsNamed 3) = true := by kernel_rfl
theorem diffPatches_closed : joinedFacts Tryd.prog 3 Tryd.f3 (Rows.OpenSpec.upto Rows.diffPatchesSpec).bare Rows.diffPatchesUptoRow = true := by
  unfold joinedFacts
  rw [diffPatches_q1, diffPatches_q2, diffPatches_q3, diffPatches_q4]
  kernel_rfl
end Go.Proofs.YtkjanpjlpieaoaaDoor

