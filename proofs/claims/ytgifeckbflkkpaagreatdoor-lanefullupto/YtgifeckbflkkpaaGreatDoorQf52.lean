/- LaneFull: what its row tells of the program, part by part. -/
import Derived.Test.YtgifeckbflkkpaaGreatDoorQf04
namespace Go.Proofs.YtgifeckbflkkpaaGreatDoor
open Go.ChangeShapes Go.WideShapes Go.ChangeAt Go.RowKit
set_option linter.unusedVariables false
set_option maxRecDepth 100000
theorem laneFull_q1 : (Rows.laneFullUptoRow.inPlace == Tryz.prog.inPlace 8) = true := by kernel_rfl
theorem laneFull_q2 : (Rows.laneFullUptoRow.unfollowed == Tryz.prog.unfollowed 8) = true := by kernel_rfl
theorem laneFull_q3 : (Rows.laneFullUptoRow.recurses == Tryz.prog.recurses 8) = true := by kernel_rfl
theorem laneFull_q4 : (Rows.laneFullUptoRow.named == Tryz.prog.varsNamed 8) = true := by kernel_rfl
theorem laneFull_closed : joinedFacts Tryz.prog 8 Tryz.f8 (Rows.OpenSpec.upto Rows.laneFullSpec).bare Rows.laneFullUptoRow = true := by
 unfold joinedFacts
 rw [laneFull_q1,laneFull_q2,laneFull_q3,laneFull_q4]
 kernel_rfl
end Go.Proofs.YtgifeckbflkkpaaGreatDoor
