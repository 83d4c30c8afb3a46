/-
  A component more, by rising kinds.
-/
import Derived.Test.YtehancopmpcpmaaDoorOlg
import Derived.Test.YtehancopmpcpmaaDoorUh
namespace Go.Proofs.YtehancopmpcpmaaDoor
open Go.RowKit
set_option linter.unusedVariables false
set_option maxRecDepth 100000

/-- with one component more -/
def insw (L : List Cp) (c : Cp) : List Cp := L.takeWhile (fun q => decide (q.k < c.k)) ++ c :: L.dropWhile (fun q => decide (q.k < c.k))
theorem insw_at (L : List Cp) (c : Cp) (j : Nat) (h1 : ∀ q ∈ L.take j, q.k < c.k) (h2 : ∀ q, L[j]? = some q → c.k ≤ q.k) : L.take j ++ c :: L.drop j = insw L c := by
  induction L generalizing j with
  | nil => simp [insw]
  | cons a L ih =>
    cases j with
    | zero =>
      have := h2 a rfl
      have hn : ¬ a.k < c.k := by omega
      simp [insw, hn]
    | succ j =>
      have ha : a.k < c.k := h1 a (by simp)
      have := ih j (fun q hq => h1 q (by simp [hq])) (fun q hq => h2 q (by simpa using hq))
      simp only [insw] at this ⊢
      simp [ha, this]
end Go.Proofs.YtehancopmpcpmaaDoor
