/-
  SnapCopies: what its row tells of the program, part by part.
-/
import Derived.Test.YtfhfcfobgemcpaaGreatDoorSc
namespace Go.Proofs.YtfhfcfobgemcpaaGreatDoor
open Go.ChangeShapes Go.WideShapes Go.ChangeAt Go.RowKit
set_option linter.unusedVariables false
set_option maxRecDepth 100000
theorem snapCopies_q1 : (Rows.snapCopiesUptoRow.inPlace == Tryz.prog.inPlace 11) = true := by kernel_rfl
theorem snapCopies_q2 : (Rows.snapCopiesUptoRow.unfollowed == Tryz.prog.unfollowed 11) = true := by kernel_rfl
theorem snapCopies_q3 : (Rows.snapCopiesUptoRow.recurses == Tryz.prog.recurses 11) = true := by kernel_rfl
theorem snapCopies_q4 : (Rows.snapCopiesUptoRow.named == Tryz.prog.varsNamed 11) = true := by kernel_rfl
theorem snapCopies_closed : joinedFacts Tryz.prog 11 Tryz.f11 (Rows.OpenSpec.upto Rows.snapCopiesSpec).bare Rows.snapCopiesUptoRow = true := by
  unfold joinedFacts
  rw [snapCopies_q1, snapCopies_q2, snapCopies_q3, snapCopies_q4]
  kernel_rfl
end Go.Proofs.YtfhfcfobgemcpaaGreatDoor
