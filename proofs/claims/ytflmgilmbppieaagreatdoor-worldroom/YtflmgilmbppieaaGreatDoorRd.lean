/-
  The document's side of layer 2: Width.
-/
import Derived.Test.YtflmgilmbppieaaGreatDoorNb
namespace Go.Proofs.YtflmgilmbppieaaGreatDoor
open Go.RowKit
set_option linter.unusedVariables false

theorem bitLen0 : Lib.bitLen 0 = 0 := by decide +kernel

end Go.Proofs.YtflmgilmbppieaaGreatDoor
