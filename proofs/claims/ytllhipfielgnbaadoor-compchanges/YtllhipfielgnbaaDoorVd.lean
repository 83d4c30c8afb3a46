/-
  The document's side of layer 2: GetVar.
-/
import Derived.Test.YtllhipfielgnbaaDoorVc
namespace Go.Proofs.YtllhipfielgnbaaDoor
open Go.RowKit
set_option linter.unusedVariables false
set_option maxRecDepth 100000

/-- what GetVar of the document leaves: the rest of the list -/
def GvRest (w w' : World) (u : Value) (M : List Bool) : Prop := Bs w' u M ∧ Fr Nobody w w'

theorem Bs.cell {w : World} {ao : Option Addr} {cap : Nat} {L : List Bool} (h : Bs w (.slice ao L.length cap) L) {i : Nat} {b : Bool} (hb : L[i]? = some b) : ∃ g o, ao = some ⟨g, o, none⟩ ∧ w.cell? ⟨g, o + i, none⟩ = some (.bool b) := by
  rcases h with ⟨_, h0⟩ | ⟨g, o, cap', cur, hv, _, hg, hc⟩
  · subst h0; simp at hb
  · simp only [Value.slice.injEq] at hv
    refine ⟨g, o, hv.1, ?_⟩
    rw [cell_of_row w g _ cur 4 (0, 0) hg]
    exact hc i (.bool b) (by simp [brow, hb])

end Go.Proofs.YtllhipfielgnbaaDoor
