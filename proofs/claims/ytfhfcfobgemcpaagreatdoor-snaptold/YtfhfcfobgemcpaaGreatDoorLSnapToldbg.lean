/-
  SnapTold: the row.
-/
import Derived.Test.YtfhfcfobgemcpaaGreatDoorLSnapToldag
import Derived.Test.YtfhfcfobgemcpaaGreatDoorLSnapToldq
import Derived.OpenShut
import Derived.SevenTiedAt
namespace Go.Proofs.YtfhfcfobgemcpaaGreatDoor
open Go.ChangeShapes Go.WideShapes Go.ChangeAt Go.RowKit
set_option linter.unusedVariables false
set_option maxRecDepth 100000
theorem snapTold_row : Rows.SnapToldSaid :=
  OpenClaim.holds_of_wide 13 Tryz.f13 rfl rfl rfl rfl rfl rfl rfl ⟨rfl, rfl, rfl, rfl, rfl⟩ rfl rfl rfl rfl rfl (by kernel_rfl) Tryz.func13 snapTold_closed
    (of_decide_eq_true (by kernel_rfl)) (by unfold Func.isWrapper; first | (rw [if_pos (by decide +kernel)]; kernel_rfl) | (rw [if_neg (by decide +kernel)]; exact ⟨rfl, rfl⟩))
    (fun os started H enc _ => snapTold_lifted os started H enc)
end Go.Proofs.YtfhfcfobgemcpaaGreatDoor
