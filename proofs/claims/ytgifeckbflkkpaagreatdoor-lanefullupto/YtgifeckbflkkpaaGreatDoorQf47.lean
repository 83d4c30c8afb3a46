/- Some of the things that lie apart, in any order. -/
import Derived.Test.YtgifeckbflkkpaaGreatDoorQf01
namespace Go.Proofs.YtgifeckbflkkpaaGreatDoor
set_option linter.unusedVariables false
def pkAt : List Thing → Nat → Option Thing
 | [],_ => none
 | a :: _,0 => some a
 | _ :: l,n + 1 => pkAt l n
def pks (L : List Thing) : List Nat → List Thing
 | [] => []
 | i :: is => match pkAt L i with
  | some a => a :: pks L is
  | none => pks L is
def tkT : Nat → List Thing → List Thing
 | 0,_ => []
 | _,[] => []
 | n + 1,a :: l => a :: tkT n l
def dpT : Nat → List Thing → List Thing
 | 0,l => l
 | _,[] => []
 | n + 1,_ :: l => dpT n l
theorem tkdp : ∀ (n : Nat) (l : List Thing),tkT n l ++ dpT n l = l
 | 0,l => rfl
 | n + 1,[] => rfl
 | n + 1,a :: l => by show a :: (tkT n l ++ dpT n l) = _; rw [tkdp n l]
theorem pkAt_get : ∀ (L : List Thing) (i : Nat),pkAt L i = L[i]?
 | [],i => by simp [pkAt]
 | a :: l,0 => by simp [pkAt]
 | a :: l,n + 1 => by simp [pkAt,pkAt_get l n]
theorem pks_map (L : List Thing) : ∀ is : List Nat,pks L is = is.filterMap (fun i => L[i]?)
 | [] => rfl
 | i :: is => by
  rw [pks,pkAt_get,List.filterMap_cons,pks_map L is]
  cases L[i]? <;> rfl
theorem range_get (L : List Thing) : (List.range L.length).filterMap (fun i => L[i]?) = L := by
 apply List.ext_getElem?
 intro i
 induction L generalizing i with
 | nil => simp
 | cons a l ih =>
  rw [List.length_cons,List.range_succ_eq_map,List.filterMap_cons]
  simp only [List.getElem?_cons_zero]
  cases i with
  | zero => rfl
  | succ i =>
   rw [List.getElem?_cons_succ,List.getElem?_cons_succ,List.filterMap_map]
   have e : ((fun i => (a :: l)[i]?) ∘ Nat.succ) = fun i => l[i]? := by funext j; simp
   rw [e]
   exact ih i
theorem Own.dropL {w0 w : World} {A B : List Thing} (h : Own w0 w (A ++ B)) : Own w0 w A := by
 have h2 : Own w0 w (B ++ A) := h.perm List.perm_append_comm
 clear h
 induction B with
 | nil => exact h2
 | cons b B ih => exact ih h2.tail
theorem Own.sel {w0 w : World} {L : List Thing} (h : Own w0 w L) (k : Nat) (is : List Nat) (hn : is.Nodup) : Own w0 w (pks (tkT k L) is ++ dpT k L) := by
 rw [← tkdp k L] at h
 generalize dpT k L = D at *
 generalize tkT k L = X at *
 clear L
 rw [pks_map]
 have hp : (is.filterMap (fun i => X[i]?) ++ ((List.range X.length).filter (fun i => decide (i ∉ is))).filterMap (fun i => X[i]?)).Perm X := by
  have e1 : is.filterMap (fun i => X[i]?) = (is.filter (fun i => decide (i < X.length))).filterMap (fun i => X[i]?) := by
   rw [List.filterMap_filter]
   congr 1
   funext i
   by_cases c : i < X.length
   ·simp [c]
   ·simp [c]
  rw [e1,← List.filterMap_append]
  have hq : (is.filter (fun i => decide (i < X.length)) ++ (List.range X.length).filter (fun i => decide (i ∉ is))).Perm (List.range X.length) := by
   refine (List.perm_ext_iff_of_nodup ?_ List.nodup_range).2 (fun a => ?_)
   ·rw [List.nodup_append]
    refine ⟨hn.filter _,List.nodup_range.filter _,?_⟩
    rintro a ha b hb rfl
    have h1 := (List.mem_filter.1 ha).1
    have h2 := (List.mem_filter.1 hb).2
    simp at h2
    exact h2 h1
   ·rw [List.mem_append,List.mem_filter,List.mem_filter,List.mem_range]
    by_cases c : a ∈ is
    ·simp [c]
    ·simp [c]
  have := hq.filterMap (fun i => X[i]?)
  rw [range_get] at this
  exact this
 have h2 : Own w0 w ((is.filterMap (fun i => X[i]?) ++ D) ++ ((List.range X.length).filter (fun i => decide (i ∉ is))).filterMap (fun i => X[i]?)) := by
  refine h.perm ((List.Perm.append_right D hp.symm).trans ?_)
  rw [List.append_assoc,List.append_assoc]
  exact List.Perm.append_left _ List.perm_append_comm
 exact h2.dropL
example (w0 w : World) (A B C D : Thing) (l : List Thing) (h : Own w0 w (A :: B :: C :: D :: l)) : Own w0 w (D :: A :: C :: l) := h.sel 4 [3,0,2] (by decide)
end Go.Proofs.YtgifeckbflkkpaaGreatDoor
