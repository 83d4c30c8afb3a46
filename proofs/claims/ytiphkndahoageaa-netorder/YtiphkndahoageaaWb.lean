/-
  The walk of add: one bit more behind the bits of a writer.
-/
import Derived.Test.YtiphkndahoageaaWa
import Derived.Test.YtiphkndahoageaaLaw
import Derived.Laws.BitsAllLaws
namespace Go.Proofs.Ytiphkndahoageaa
open Go.RowKit
set_option linter.unusedVariables false

theorem grown_cell {w w1 : World} {row : Option Nat} {b : Nat} (h : w.grownBy w1 row) (hb : b < w.heap.size) (hne : some b ≠ row) : w1.heap[b]? = w.heap[b]? := h.block b hb hne

end Go.Proofs.Ytiphkndahoageaa

