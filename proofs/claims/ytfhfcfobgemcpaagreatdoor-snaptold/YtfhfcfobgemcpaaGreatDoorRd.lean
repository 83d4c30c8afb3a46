/-
  The document's side of layer 2: Width.
-/
import Derived.Test.YtfhfcfobgemcpaaGreatDoorNb
namespace Go.Proofs.YtfhfcfobgemcpaaGreatDoor
open Go.RowKit
set_option linter.unusedVariables false

theorem bitLen0 : Lib.bitLen 0 = 0 := by decide +kernel

end Go.Proofs.YtfhfcfobgemcpaaGreatDoor
