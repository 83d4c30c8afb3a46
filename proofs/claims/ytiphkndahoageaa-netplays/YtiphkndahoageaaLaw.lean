/-
  A law on append for a slice of the call's own: the new value's row is the old one's, or a new block.
-/
import Derived.Test.YtiphkndahoageaaMem
namespace Go.Proofs.Ytiphkndahoageaa
open Go.RowKit
set_option linter.unusedVariables false

theorem one_vrow (l : List Nat) : ∀ u ∈ vrow l, u.oneCell' = true := by intro u hu; rw [vrow, List.mem_map] at hu; obtain ⟨x, _, rfl⟩ := hu; rfl
end Go.Proofs.Ytiphkndahoageaa

