/- LaneBudget: what its row tells of the program, part by part. -/
import Derived.Test.YtgifeckbflkkpaaGreatDoorQl04
namespace Go.Proofs.YtgifeckbflkkpaaGreatDoor
open Go.ChangeShapes Go.WideShapes Go.ChangeAt Go.RowKit
set_option linter.unusedVariables false
set_option maxRecDepth 100000
theorem laneBudget_q1 : (Rows.laneBudgetUptoRow.inPlace == Tryz.prog.inPlace 6) = true := by kernel_rfl
theorem laneBudget_q2 : (Rows.laneBudgetUptoRow.unfollowed == Tryz.prog.unfollowed 6) = true := by kernel_rfl
theorem laneBudget_q3 : (Rows.laneBudgetUptoRow.recurses == Tryz.prog.recurses 6) = true := by kernel_rfl
theorem laneBudget_q4 : (Rows.laneBudgetUptoRow.named == Tryz.prog.varsNamed 6) = true := by kernel_rfl
theorem laneBudget_closed : joinedFacts Tryz.prog 6 Tryz.f6 (Rows.OpenSpec.upto Rows.laneBudgetSpec).bare Rows.laneBudgetUptoRow = true := by
 unfold joinedFacts
 rw [laneBudget_q1,laneBudget_q2,laneBudget_q3,laneBudget_q4]
 kernel_rfl
end Go.Proofs.YtgifeckbflkkpaaGreatDoor
