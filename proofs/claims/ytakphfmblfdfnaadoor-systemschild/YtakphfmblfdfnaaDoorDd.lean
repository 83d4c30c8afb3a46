/-
  The document's table: Set.
-/
import Derived.Test.YtakphfmblfdfnaaDoorDc
namespace Go.Proofs.YtakphfmblfdfnaaDoor
open Go.RowKit Go.Maps
set_option linter.unusedVariables false
set_option maxRecDepth 100000

theorem cat_set2 (E : List REnt) (r : Nat) (e e' : REnt) (he : E[r]? = some e) (hi : e'.1 = e.1) : cat rcells (E.set r e') = (cat rcells E).set (r * 2 + 1) e'.v := by
  induction E generalizing r with
  | nil => simp at he
  | cons y E ih =>
    cases r with
    | zero =>
      simp at he; subst he
      simp [cat, rcells, hi]
    | succ r =>
      have ih := ih r (by simpa using he)
      have e1 : ∀ (A : List REnt) (z : REnt), cat rcells (z :: A) = [.int .u32 (z.1 : Int), z.v] ++ cat rcells A := fun _ _ => rfl
      rw [List.set_cons_succ, e1, e1, ih, show (r + 1) * 2 + 1 = r * 2 + 1 + 1 + 1 by omega]
      simp
theorem tset_none {m : Nat} {L : List Ent} {id : Nat} {q : Cp} (h0 : q.chk = 0) (hp : plc L id = none) : tset m L id q = (7, L) ∧ tget m L id q.k = (7, ⟨0, 0, 0, 0⟩) := by
  unfold tset tget; rw [if_neg (by simp [h0]), hp]; exact ⟨rfl, rfl⟩
theorem tset_no {m : Nat} {L : List Ent} {id r : Nat} {q : Cp} (h0 : q.chk = 0) (hp : plc L id = some r) (hb : bt m q.k = false) : tset m L id q = (10, L) ∧ tget m L id q.k = (10, ⟨0, 0, 0, 0⟩) := by
  unfold tset tget; rw [if_neg (by simp [h0]), hp]; simp [hb]

section
variable (w0 w : World) (l : List Thing) (b o : Nat) (cur : Array Value) (m : Nat) (L : List Ent)
end
end Go.Proofs.YtakphfmblfdfnaaDoor
