/- LaneReads: what its row tells of the program, part by part. -/
import Derived.Test.YtgifeckbflkkpaaGreatDoorQr07
namespace Go.Proofs.YtgifeckbflkkpaaGreatDoor
open Go.ChangeShapes Go.WideShapes Go.ChangeAt Go.RowKit
set_option linter.unusedVariables false
set_option maxRecDepth 100000
theorem laneReads_q1 : (Rows.laneReadsUptoRow.inPlace == Tryz.prog.inPlace 7) = true := by kernel_rfl
theorem laneReads_q2 : (Rows.laneReadsUptoRow.unfollowed == Tryz.prog.unfollowed 7) = true := by kernel_rfl
theorem laneReads_q3 : (Rows.laneReadsUptoRow.recurses == Tryz.prog.recurses 7) = true := by kernel_rfl
theorem laneReads_q4 : (Rows.laneReadsUptoRow.named == Tryz.prog.varsNamed 7) = true := by kernel_rfl
theorem laneReads_closed : joinedFacts Tryz.prog 7 Tryz.f7 (Rows.OpenSpec.upto Rows.laneReadsSpec).bare Rows.laneReadsUptoRow = true := by
 unfold joinedFacts
 rw [laneReads_q1,laneReads_q2,laneReads_q3,laneReads_q4]
 kernel_rfl
end Go.Proofs.YtgifeckbflkkpaaGreatDoor
