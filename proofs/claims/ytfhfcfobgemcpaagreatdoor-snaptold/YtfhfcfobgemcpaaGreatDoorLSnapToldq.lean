/-
  SnapTold: what its row tells of the program, part by part.
-/
import Derived.Test.YtfhfcfobgemcpaaGreatDoorSc
namespace Go.Proofs.YtfhfcfobgemcpaaGreatDoor
open Go.ChangeShapes Go.WideShapes Go.ChangeAt Go.RowKit
set_option linter.unusedVariables false
set_option maxRecDepth 100000
theorem snapTold_q1 : (Rows.snapToldRow.inPlace == Tryz.prog.inPlace 13) = true := by kernel_rfl
theorem snapTold_q2 : (Rows.snapToldRow.unfollowed == Tryz.prog.unfollowed 13) = true := by kernel_rfl
theorem snapTold_q3 : (Rows.snapToldRow.recurses == Tryz.prog.recurses 13) = true := by kernel_rfl
theorem snapTold_q4 : (Rows.snapToldRow.named == Tryz.prog.varsNamed 13) = true := by kernel_rfl
theorem snapTold_closed : joinedFacts Tryz.prog 13 Tryz.f13 Rows.snapToldSpec Rows.snapToldRow = true := by
  unfold joinedFacts
  rw [snapTold_q1, snapTold_q2, snapTold_q3, snapTold_q4]
  kernel_rfl
end Go.Proofs.YtfhfcfobgemcpaaGreatDoor
