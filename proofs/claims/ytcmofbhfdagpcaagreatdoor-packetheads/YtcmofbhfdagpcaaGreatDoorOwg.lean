/-
  Two entities that are alike.
-/
import Derived.Test.YtcmofbhfdagpcaaGreatDoorSmg
namespace Go.Proofs.YtcmofbhfdagpcaaGreatDoor
open Go.RowKit
set_option linter.unusedVariables false
set_option maxRecDepth 100000

end Go.Proofs.YtcmofbhfdagpcaaGreatDoor

