/-
  PacketApart: what its row tells of the program, part by part.
-/
import Derived.Test.YtheafmecpnjdjaaDoorSc
namespace Go.Proofs.YtheafmecpnjdjaaDoor
open Go.ChangeShapes Go.WideShapes Go.ChangeAt Go.RowKit
set_option linter.unusedVariables false
set_option maxRecDepth 100000
theorem packetApart_q1 : (Rows.packetApartUptoRow.inPlace == Tryd.prog.inPlace 4) = true := by kernel_rfl
theorem packetApart_q2 : (Rows.packetApartUptoRow.unfollowed == Tryd.prog.unfollowed 4) = true := by kernel_rfl
theorem packetApart_q3 : (Rows.packetApartUptoRow.recurses == Tryd.prog.recurses 4) = true := by kernel_rfl
theorem packetApart_q4 : (Rows.packetApartUptoRow.named == Tryd.prog.varsNamed 4) = true := by kernel_rfl
theorem packetApart_closed : joinedFacts Tryd.prog 4 Tryd.f4 (Rows.OpenSpec.upto Rows.packetApartSpec).bare Rows.packetApartUptoRow = true := by
  unfold joinedFacts
  rw [packetApart_q1, packetApart_q2, packetApart_q3, packetApart_q4]
  kernel_rfl
end Go.Proofs.YtheafmecpnjdjaaDoor
