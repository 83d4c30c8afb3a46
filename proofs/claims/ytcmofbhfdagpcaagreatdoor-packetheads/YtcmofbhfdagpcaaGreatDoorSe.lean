/-
  The document's Count, Name, Field, Range, Told; the width by halving.
-/
import Derived.Test.YtcmofbhfdagpcaaGreatDoorSd
namespace Go.Proofs.YtcmofbhfdagpcaaGreatDoor
open Go.RowKit
set_option linter.unusedVariables false

theorem six (k : Nat) (h : k < 6) : k = 0 ∨ k = 1 ∨ k = 2 ∨ k = 3 ∨ k = 4 ∨ k = 5 := by omega

theorem pairs (k j : Nat) (h : j < cnt k) : (k = 0 ∧ (j = 0 ∨ j = 1)) ∨ (k = 1 ∧ (j = 0 ∨ j = 1)) ∨ (k = 2 ∧ j = 0) ∨ (k = 3 ∧ (j = 0 ∨ j = 1 ∨ j = 2)) ∨ (k = 4 ∧ (j = 0 ∨ j = 1 ∨ j = 2)) ∨ (k = 5 ∧ (j = 0 ∨ j = 1 ∨ j = 2)) := by
  have h6 : k < 6 := by
    rcases Nat.lt_or_ge k 6 with h' | h'
    · exact h'
    · rw [cnt_out k h'] at h; omega
  rcases six k h6 with rfl | rfl | rfl | rfl | rfl | rfl
  all_goals
    simp only [cnt, kinds] at h
    simp at h
    omega

end Go.Proofs.YtcmofbhfdagpcaaGreatDoor

