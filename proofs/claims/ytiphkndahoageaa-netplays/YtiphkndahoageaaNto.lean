/-
  The bag and the document's bag side by side.
-/
import Derived.Test.YtiphkndahoageaaNtn
import Derived.Deep.DeepCutAuto
import Derived.Deep.CutBlock
namespace Go.Proofs.Ytiphkndahoageaa
open Go.RowKit
set_option linter.unusedVariables false

def Gr.ab (x : Gr) : Int × List Nat := (x.to, x.P)
/-- the bag and the document's bag hold the same -/
structure Twin (N : Nat) (E F : List Gr) : Prop where
  eq : E.map Gr.ab = F.map Gr.ab
  le : E.length ≤ N
  N : N ≤ 2048
  byt : ∀ x ∈ E, ∀ y ∈ x.P, y < 256
  len : ∀ x ∈ E, x.P.length ≤ 40
section
variable {N : Nat} {E F : List Gr}
theorem Twin.leq (h : Twin N E F) : E.length = F.length := by have := congrArg List.length h.eq; simpa using this
theorem Twin.tos (h : Twin N E F) : E.map Gr.to = F.map Gr.to := by
  have := congrArg (List.map Prod.fst) h.eq
  simpa [List.map_map, Function.comp_def, Gr.ab] using this
theorem Twin.at (h : Twin N E F) (i : Nat) (hi : i < E.length) : ∃ x y, E[i]? = some x ∧ F[i]? = some y ∧ x.to = y.to ∧ x.P = y.P ∧ (∀ z ∈ y.P, z < 256) ∧ y.P.length ≤ 40 := by
  have hi2 : i < F.length := by rw [← h.leq]; exact hi
  have e := congrArg (·[i]?) h.eq
  simp only [List.getElem?_map, List.getElem?_eq_getElem hi, List.getElem?_eq_getElem hi2, Option.map_some, Option.some.injEq, Gr.ab, Prod.mk.injEq] at e
  refine ⟨E[i], F[i], List.getElem?_eq_getElem hi, List.getElem?_eq_getElem hi2, e.1, e.2, ?_, ?_⟩
  · rw [← e.2]; exact h.byt _ (List.getElem_mem hi)
  · rw [← e.2]; exact h.len _ (List.getElem_mem hi)
theorem Twin.put (h : Twin N E F) (hl : E.length < N) (a c : _) (a' c' : _) (tt : Int) (P : List Nat) (hb : ∀ y ∈ P, y < 256) (hP : P.length ≤ 40) : Twin N (E ++ [⟨a, c, tt, P⟩]) (F ++ [⟨a', c', tt, P⟩]) := by
  refine ⟨by simp [h.eq, Gr.ab], by simp; omega, h.N, ?_, ?_⟩
  · intro x hx
    rcases List.mem_append.1 hx with hx | hx
    · exact h.byt x hx
    · simp at hx; subst hx; exact hb
  · intro x hx
    rcases List.mem_append.1 hx with hx | hx
    · exact h.len x hx
    · simp at hx; subst hx; exact hP
theorem Twin.erase (h : Twin N E F) (i : Nat) : Twin N (E.eraseIdx i) (F.eraseIdx i) := by
  have hsub : (E.eraseIdx i).Sublist E := List.eraseIdx_sublist E i
  refine ⟨?_, Nat.le_trans hsub.length_le h.le, h.N, fun x hx => h.byt x (hsub.subset hx), fun x hx => h.len x (hsub.subset hx)⟩
  rw [erase_at, erase_at, List.map_append, List.map_append, List.map_take, List.map_drop, List.map_take, List.map_drop, h.eq]
theorem Twin.set (h : Twin N E F) (i : Nat) (a c : _) (a' c' : _) (tt : Int) (P : List Nat) (hb : ∀ y ∈ P, y < 256) (hP : P.length ≤ 40) : Twin N (E.set i ⟨a, c, tt, P⟩) (F.set i ⟨a', c', tt, P⟩) := by
  refine ⟨by simp [List.map_set, h.eq, Gr.ab], by simpa using h.le, h.N, ?_, ?_⟩
  · intro x hx
    rcases List.mem_or_eq_of_mem_set hx with hx | hx
    · exact h.byt x hx
    · subst hx; exact hb
  · intro x hx
    rcases List.mem_or_eq_of_mem_set hx with hx | hx
    · exact h.len x hx
    · subst hx; exact hP
end
theorem Own.five {w0 w : World} {P Q R S T : Thing} {l : List Thing} (h : Own w0 w (P :: Q :: R :: S :: T :: l)) : Own w0 w (T :: P :: Q :: R :: S :: l) :=
  (h.perm (((List.Perm.swap T S l).cons R).cons Q |>.cons P)).four
theorem Own.six {w0 w : World} {P Q R S T U : Thing} {l : List Thing} (h : Own w0 w (P :: Q :: R :: S :: T :: U :: l)) : Own w0 w (U :: P :: Q :: R :: S :: T :: l) :=
  (h.perm ((((List.Perm.swap U T l).cons S).cons R).cons Q |>.cons P)).five
end Go.Proofs.Ytiphkndahoageaa
