/-
  Package slots: List on slots.
-/
import Derived.Test.YtoobfmedkhbkiaaDoorXf
namespace Go.Proofs.YtoobfmedkhbkiaaDoor
open Go.RowKit
set_option linter.unusedVariables false
theorem pick_le (l : List Nat) (m : List Bool) : (pick l m).length ≤ l.length := by
  induction l generalizing m with
  | nil => cases m <;> simp [pick]
  | cons x l ih => cases m with
    | nil => simp [pick]
    | cons u m => have := ih m; cases u <;> simp [pick] <;> omega
theorem pick_step (S : St) (hS : S.Ok) (k x : Nat) (u : Bool) (hx : S.last[k]? = some x) (hu : S.used[k]? = some u) : pick (S.last.take (k + 1)) (S.used.take (k + 1)) = pick (S.last.take k) (S.used.take k) ++ if u then [x] else [] := by
  rw [List.take_add_one, List.take_add_one, hx, hu]
  exact pick_snoc _ _ (by rw [List.length_take, List.length_take, hS.ul]) x u

end Go.Proofs.YtoobfmedkhbkiaaDoor
