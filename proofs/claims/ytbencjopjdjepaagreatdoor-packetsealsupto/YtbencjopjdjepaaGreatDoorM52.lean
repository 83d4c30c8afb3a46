/-
  PacketSeals: what its row tells of the program, part by part.
-/
import Derived.Test.YtbencjopjdjepaaGreatDoorM07
namespace Go.Proofs.YtbencjopjdjepaaGreatDoor
open Go.ChangeShapes Go.WideShapes Go.ChangeAt Go.RowKit
set_option linter.unusedVariables false
set_option maxRecDepth 100000
theorem packetSeals_q1 : (Rows.packetSealsUptoRow.inPlace == Tryz.prog.inPlace 3) = true := by kernel_rfl
theorem packetSeals_q2 : (Rows.packetSealsUptoRow.unfollowed == Tryz.prog.unfollowed 3) = true := by kernel_rfl
theorem packetSeals_q3 : (Rows.packetSealsUptoRow.recurses == Tryz.prog.recurses 3) = true := by kernel_rfl
theorem packetSeals_q4 : (Rows.packetSealsUptoRow.named == Tryz.prog.varsNamed 3) = true := by kernel_rfl
theorem packetSeals_closed : joinedFacts Tryz.prog 3 Tryz.f3 (Rows.OpenSpec.upto Rows.packetSealsSpec).bare Rows.packetSealsUptoRow = true := by
  unfold joinedFacts
  rw [packetSeals_q1, packetSeals_q2, packetSeals_q3, packetSeals_q4]
  kernel_rfl
end Go.Proofs.YtbencjopjdjepaaGreatDoor

