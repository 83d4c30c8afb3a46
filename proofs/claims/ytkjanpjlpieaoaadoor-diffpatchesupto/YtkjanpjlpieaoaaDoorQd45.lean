/-
  What the document's Patch answers.
-/
import Derived.Test.YtkjanpjlpieaoaaDoorQd17
import Derived.Test.YtkjanpjlpieaoaaDoorQd31
namespace Go.Proofs.YtkjanpjlpieaoaaDoor
open Go.RowKit
set_option linter.unusedVariables false
set_option maxRecDepth 100000

/-- what the document's Patch answers -/
def rpat (W : List En) (d : Dl) : Nat × List En := if fm 0 W ≠ 0 then (fm 0 W, []) else match patL W d with
  | none => (4, [])
  | some N => if fm 0 N = 0 ∧ btw W N = d then (0, N) else (4, [])
/-- one of the two: what Patch answers for a delta -/
theorem pat_one {W R : List En} {d : Dl} {code : Nat} (h : PatR W d code R) : rpat W d = (code, R) := by
  unfold rpat
  rcases h with ⟨h0, rfl, rfl⟩ | ⟨h0, rfl, h1, h2⟩ | ⟨h0, rfl, rfl, h1⟩
  · rw [if_pos h0]
  · rw [if_neg (by simpa using h0), ← h2, patL_to (Snap.of h0) (Snap.of h1)]
    simp only [h1, true_and, if_true]
  · rw [if_neg (by simpa using h0)]
    cases patL W d with
    | none => rfl
    | some N =>
      simp only
      rw [if_neg (fun hc => h1 N hc.1 hc.2)]
end Go.Proofs.YtkjanpjlpieaoaaDoor

