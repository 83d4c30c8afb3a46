/-
  PutIn, and reading of a nil reader, of package nums.
-/
import Derived.Test.YtkkehmapheopeaaDoorAwb
namespace Go.Proofs.YtkkehmapheopeaaDoor
open Go.RowKit
set_option linter.unusedVariables false

theorem zag0 : zag 0 = 0 := by decide +kernel
end Go.Proofs.YtkkehmapheopeaaDoor

