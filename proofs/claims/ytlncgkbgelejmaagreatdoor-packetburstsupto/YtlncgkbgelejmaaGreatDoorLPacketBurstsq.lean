/-
  PacketBursts: what its row tells of the program, part by part.
-/
import Derived.Test.YtlncgkbgelejmaaGreatDoorSc
namespace Go.Proofs.YtlncgkbgelejmaaGreatDoor
open Go.ChangeShapes Go.WideShapes Go.ChangeAt Go.RowKit
set_option linter.unusedVariables false
set_option maxRecDepth 100000
theorem packetBursts_q1 : (Rows.packetBurstsUptoRow.inPlace == Tryz.prog.inPlace 3) = true := by kernel_rfl
theorem packetBursts_q2 : (Rows.packetBurstsUptoRow.unfollowed == Tryz.prog.unfollowed 3) = true := by kernel_rfl
theorem packetBursts_q3 : (Rows.packetBurstsUptoRow.recurses == Tryz.prog.recurses 3) = true := by kernel_rfl
theorem packetBursts_q4 : (Rows.packetBurstsUptoRow.named == Tryz.prog.varsNamed 3) = true := by kernel_rfl
theorem packetBursts_closed : joinedFacts Tryz.prog 3 Tryz.f3 (Rows.OpenSpec.upto Rows.packetBurstsSpec).bare Rows.packetBurstsUptoRow = true := by
  unfold joinedFacts
  rw [packetBursts_q1, packetBursts_q2, packetBursts_q3, packetBursts_q4]
  kernel_rfl
end Go.Proofs.YtlncgkbgelejmaaGreatDoor
