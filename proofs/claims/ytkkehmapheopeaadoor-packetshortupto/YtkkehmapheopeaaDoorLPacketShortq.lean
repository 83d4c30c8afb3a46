/-
  PacketShort: what its row tells of the program, part by part.
-/
import Derived.Test.YtkkehmapheopeaaDoorSc
namespace Go.Proofs.YtkkehmapheopeaaDoor
open Go.ChangeShapes Go.WideShapes Go.ChangeAt Go.RowKit
set_option linter.unusedVariables false
set_option maxRecDepth 100000
theorem packetShort_q1 : (Rows.packetShortUptoRow.inPlace == Tryd.prog.inPlace 3) = true := by kernel_rfl
theorem packetShort_q2 : (Rows.packetShortUptoRow.unfollowed == Tryd.prog.unfollowed 3) = true := by kernel_rfl
theorem packetShort_q3 : (Rows.packetShortUptoRow.recurses == Tryd.prog.recurses 3) = true := by kernel_rfl
theorem packetShort_q4 : (Rows.packetShortUptoRow.named == Tryd.prog.varsNamed 3) = true := by kernel_rfl
theorem packetShort_closed : joinedFacts Tryd.prog 3 Tryd.f3 (Rows.OpenSpec.upto Rows.packetShortSpec).bare Rows.packetShortUptoRow = true := by
  unfold joinedFacts
  rw [packetShort_q1, packetShort_q2, packetShort_q3, packetShort_q4]
  kernel_rfl
end Go.Proofs.YtkkehmapheopeaaDoor
