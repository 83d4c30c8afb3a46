/- LanePlays: what its row tells of the program, part by part. -/
import Derived.Test.YtgifeckbflkkpaaGreatDoorQp03
namespace Go.Proofs.YtgifeckbflkkpaaGreatDoor
open Go.ChangeShapes Go.WideShapes Go.ChangeAt Go.RowKit
set_option linter.unusedVariables false
set_option maxRecDepth 100000
theorem lanePlays_q1 : (Rows.lanePlaysUptoRow.inPlace == Tryz.prog.inPlace 5) = true := by kernel_rfl
theorem lanePlays_q2 : (Rows.lanePlaysUptoRow.unfollowed == Tryz.prog.unfollowed 5) = true := by kernel_rfl
theorem lanePlays_q3 : (Rows.lanePlaysUptoRow.recurses == Tryz.prog.recurses 5) = true := by kernel_rfl
theorem lanePlays_q4 : (Rows.lanePlaysUptoRow.named == Tryz.prog.varsNamed 5) = true := by kernel_rfl
theorem lanePlays_closed : joinedFacts Tryz.prog 5 Tryz.f5 (Rows.OpenSpec.upto Rows.lanePlaysSpec).bare Rows.lanePlaysUptoRow = true := by
 unfold joinedFacts
 rw [lanePlays_q1,lanePlays_q2,lanePlays_q3,lanePlays_q4]
 kernel_rfl
end Go.Proofs.YtgifeckbflkkpaaGreatDoor
