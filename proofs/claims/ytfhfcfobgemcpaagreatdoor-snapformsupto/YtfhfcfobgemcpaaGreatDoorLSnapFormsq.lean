/-
  SnapForms: what its row tells of the program, part by part.
-/
import Derived.Test.YtfhfcfobgemcpaaGreatDoorSc
namespace Go.Proofs.YtfhfcfobgemcpaaGreatDoor
open Go.ChangeShapes Go.WideShapes Go.ChangeAt Go.RowKit
set_option linter.unusedVariables false
set_option maxRecDepth 100000
theorem snapForms_q1 : (Rows.snapFormsUptoRow.inPlace == Tryz.prog.inPlace 8) = true := by kernel_rfl
theorem snapForms_q2 : (Rows.snapFormsUptoRow.unfollowed == Tryz.prog.unfollowed 8) = true := by kernel_rfl
theorem snapForms_q3 : (Rows.snapFormsUptoRow.recurses == Tryz.prog.recurses 8) = true := by kernel_rfl
theorem snapForms_q4 : (Rows.snapFormsUptoRow.named == Tryz.prog.varsNamed 8) = true := by kernel_rfl
theorem snapForms_closed : joinedFacts Tryz.prog 8 Tryz.f8 (Rows.OpenSpec.upto Rows.snapFormsSpec).bare Rows.snapFormsUptoRow = true := by
  unfold joinedFacts
  rw [snapForms_q1, snapForms_q2, snapForms_q3, snapForms_q4]
  kernel_rfl
end Go.Proofs.YtfhfcfobgemcpaaGreatDoor
