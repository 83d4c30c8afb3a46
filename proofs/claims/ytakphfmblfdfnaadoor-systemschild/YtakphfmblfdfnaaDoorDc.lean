/-
  The document's table: Get, Set.
-/
import Derived.Test.YtakphfmblfdfnaaDoorDb
import Derived.Test.YtakphfmblfdfnaaDoorUh
namespace Go.Proofs.YtakphfmblfdfnaaDoor
open Go.RowKit Go.Maps
set_option linter.unusedVariables false
set_option maxRecDepth 100000

theorem TOk.c6 {m : Nat} {L : List Ent} (hT : TOk m L) {r : Nat} {e : Ent} (he : L[r]? = some e) : e.2.length ≤ 6 := by
  have := hT.ok e (List.mem_of_getElem? he)
  rw [← comps_of this.1 this.2, List.length_map]
  exact Nat.le_trans (List.length_filter_le _ _) (by simp)
theorem tget_has {m : Nat} {L : List Ent} (hT : TOk m L) {id r : Nat} {C : List Cp} (hp : plc L id = some r) (he : L[r]? = some (id, C)) {k i : Nat} {q : Cp} (hq : C[i]? = some q) (hqk : q.k = k) : tget m L id k = (0, q) := by
  obtain ⟨h1, h2⟩ := hT.ok _ (List.mem_of_getElem? he)
  have hm := List.mem_of_getElem? hq
  have h6 : k < 6 := by rw [← hqk]; exact chk_k ((lst_ok h1).2 q hm).2
  have hb : bt m k = true := by rw [← h2, bt_msk C k h6, hasK_iff]; exact ⟨q, hm, hqk⟩
  unfold tget
  rw [hp]
  simp only
  rw [if_pos hb, he]
  simp only [Option.map_some, Option.getD_some]
  rw [← hqk, fv_of h1 hm]
  rfl
theorem tget_not {m : Nat} {L : List Ent} (hT : TOk m L) {id r : Nat} {C : List Cp} (hp : plc L id = some r) (he : L[r]? = some (id, C)) {k : Nat} (hk : hasK C k = false) : tget m L id k = (10, ⟨0, 0, 0, 0⟩) := by
  obtain ⟨h1, h2⟩ := hT.ok _ (List.mem_of_getElem? he)
  have hb : bt m k = false := by
    cases hb : bt m k with
    | false => rfl
    | true => rw [hasK_bt h2 hT.m64 hb] at hk; cases hk
  unfold tget
  rw [hp]
  simp only
  rw [hb]
  rfl

section
variable (w0 w : World) (l : List Thing) (b o : Nat) (cur : Array Value) (m : Nat) (L : List Ent)
end
end Go.Proofs.YtakphfmblfdfnaaDoor
