/-
  The document's table: Remove.
-/
import Derived.Test.YtakphfmblfdfnaaDoorDd
namespace Go.Proofs.YtakphfmblfdfnaaDoor
open Go.RowKit Go.Maps
set_option linter.unusedVariables false
set_option maxRecDepth 100000

theorem outr_perm {α : Type} (E : List α) (r : Nat) (e : α) (he : E[r]? = some e) : E.Perm (e :: outr E r) := by
  obtain ⟨hr, hre⟩ := List.getElem?_eq_some_iff.1 he
  have hsp : E = E.take r ++ e :: E.drop (r + 1) := by
    rw [← hre, List.getElem_cons_drop, List.take_append_drop]
  have hA : (E.take r).length = r := by rw [List.length_take]; omega
  generalize E.take r = A at *
  generalize E.drop (r + 1) = B at *
  subst hsp
  rcases List.eq_nil_or_concat B with rfl | ⟨B', x, rfl⟩
  · have : outr (A ++ [e]) r = A := by
      unfold outr
      rw [List.getLast?_append, List.getLast?_singleton]
      simp only [Option.some_or]
      rw [List.set_append_right _ _ (by omega), hA, Nat.sub_self]
      simp
    rw [this]
    exact List.perm_append_singleton _ _
  · have : outr (A ++ e :: (B' ++ [x])) r = A ++ x :: B' := by
      unfold outr
      have hl : (A ++ e :: (B' ++ [x])).getLast? = some x := by
        rw [List.getLast?_append, List.getLast?_cons, List.getLast?_append]; simp
      rw [hl]
      simp only
      rw [List.set_append_right _ _ (by omega), hA, Nat.sub_self]
      simp only [List.set_cons_zero]
      rw [show A ++ x :: (B' ++ [x]) = (A ++ x :: B') ++ [x] by simp, List.dropLast_concat]
    rw [List.concat_eq_append, this]
    refine (List.perm_middle).trans (List.Perm.cons e ?_)
    rw [← List.append_assoc]
    refine (List.perm_append_singleton x (A ++ B')).trans ?_
    exact List.perm_middle.symm

section
variable (w0 w : World) (l : List Thing) (b o : Nat) (cur : Array Value) (m : Nat) (L : List Ent)
end
end Go.Proofs.YtakphfmblfdfnaaDoor
