/-
  The document's With: components with one more, or with another one of its kind.
-/
import Derived.Test.YtakphfmblfdfnaaDoorUf
namespace Go.Proofs.YtakphfmblfdfnaaDoor
open Go.RowKit Go.Maps
set_option linter.unusedVariables false
set_option maxRecDepth 100000

def insc (C : List Cp) (c : Cp) : List Cp := C.takeWhile (fun q => decide (q.k < c.k)) ++ c :: (C.dropWhile (fun q => decide (q.k < c.k))).filter (fun q => decide (q.k ≠ c.k))
/-- one step of With -/
def wstep (c : Cp) (st : List Cp × Bool) (q : Cp) : List Cp × Bool :=
  let s1 := if st.2 = false ∧ c.k ≤ q.k then (st.1 ++ [c], true) else st
  if q.k ≠ c.k then (s1.1 ++ [q], s1.2) else s1
def wfold (c : Cp) (C : List Cp) : List Cp × Bool := C.foldl (wstep c) ([], false)
theorem wfold_snoc (c : Cp) (C : List Cp) (q : Cp) : wfold c (C ++ [q]) = wstep c (wfold c C) q := by simp [wfold]
theorem fold_done (c : Cp) (C out : List Cp) : C.foldl (wstep c) (out, true) = (out ++ C.filter (fun q => decide (q.k ≠ c.k)), true) := by
  induction C generalizing out with
  | nil => simp
  | cons q t ih =>
    rw [List.foldl_cons]
    by_cases h : q.k = c.k
    · have e : wstep c (out, true) q = (out, true) := by simp [wstep, h]
      rw [e, ih]; simp [h]
    · have e : wstep c (out, true) q = (out ++ [q], true) := by simp [wstep, h]
      rw [e, ih]; simp [h]
theorem fold_not (c : Cp) (C out : List Cp) : C.foldl (wstep c) (out, false) = if C.any (fun q => decide (c.k ≤ q.k)) then (out ++ insc C c, true) else (out ++ C, false) := by
  induction C generalizing out with
  | nil => simp
  | cons q t ih =>
    rw [List.foldl_cons]
    by_cases h : c.k ≤ q.k
    · have hn : ¬ q.k < c.k := by omega
      by_cases h2 : q.k = c.k
      · have e : wstep c (out, false) q = (out ++ [c], true) := by simp [wstep, h2]
        rw [e, fold_done]
        simp [insc, h2]
      · have e : wstep c (out, false) q = (out ++ [c] ++ [q], true) := by simp [wstep, h, h2]
        rw [e, fold_done]
        simp [insc, h, h2, hn]
    · have hn : q.k < c.k := by omega
      have e : wstep c (out, false) q = (out ++ [q], false) := by simp [wstep, h]; omega
      rw [e, ih]
      simp only [List.any_cons, decide_eq_false h, Bool.false_or]
      split
      · simp [insc, hn]
      · simp
theorem dw_nil {α : Type} {p : α → Bool} {C : List α} (h : ∀ q ∈ C, p q = true) : C.dropWhile p = [] := by
  induction C with
  | nil => rfl
  | cons q t ih => rw [List.dropWhile_cons, h q List.mem_cons_self]; exact ih (fun x hx => h x (List.mem_cons_of_mem _ hx))
theorem wfold_end (c : Cp) (C : List Cp) : (if (wfold c C).2 then (wfold c C).1 else (wfold c C).1 ++ [c]) = insc C c := by
  unfold wfold
  rw [fold_not]
  by_cases h : C.any (fun q => decide (c.k ≤ q.k)) = true
  · rw [if_pos h]; simp
  · rw [if_neg h]
    have hall : ∀ q ∈ C, decide (q.k < c.k) = true := by
      intro q hq
      rw [Bool.not_eq_true, List.any_eq_false] at h
      have := h q hq
      simp at this ⊢; omega
    simp only [List.nil_append]
    unfold insc
    have hd : C.dropWhile (fun q => decide (q.k < c.k)) = [] := dw_nil hall
    have ht := List.takeWhile_append_dropWhile (p := fun q : Cp => decide (q.k < c.k)) (l := C)
    rw [hd, List.append_nil] at ht
    rw [hd, ht]
    simp
theorem insc_len (C : List Cp) (c : Cp) : (insc C c).length ≤ C.length + 1 := by
  unfold insc
  rw [List.length_append, List.length_cons]
  have h1 := List.length_filter_le (fun q : Cp => decide (q.k ≠ c.k)) (C.dropWhile (fun q => decide (q.k < c.k)))
  have h2 := congrArg List.length (List.takeWhile_append_dropWhile (p := fun q : Cp => decide (q.k < c.k)) (l := C))
  rw [List.length_append] at h2
  omega
theorem insc_set {C : List Cp} (h : C.Pairwise (fun x y => x.k < y.k)) (c : Cp) (hk : hasK C c.k = true) : insc C c = setc C c := by
  induction C with
  | nil => simp [hasK] at hk
  | cons q t ih =>
    obtain ⟨a1, a2⟩ := List.pairwise_cons.1 h
    by_cases h2 : q.k = c.k
    · have e1 : insc (q :: t) c = c :: t := by
        unfold insc
        rw [List.takeWhile_cons, List.dropWhile_cons, decide_eq_false (by omega)]
        simp only [Bool.false_eq_true, if_false, List.nil_append, List.filter_cons, h2]
        simp only [ne_eq, not_true_eq_false, decide_false, Bool.false_eq_true, if_false]
        rw [List.filter_eq_self.2]
        intro x hx
        have := a1 x hx
        simp; omega
      have e2 : setc (q :: t) c = c :: t := by
        unfold setc
        rw [List.map_cons, if_pos h2]
        congr 1
        conv => rhs; rw [← List.map_id t]
        apply List.map_congr_left
        intro x hx
        have := a1 x hx
        rw [if_neg (by omega)]; rfl
      rw [e1, e2]
    · rw [hasK_cons, decide_eq_false h2, Bool.false_or] at hk
      obtain ⟨x, hx, hxk⟩ := (hasK_iff _ _).1 hk
      have hlt : q.k < c.k := by have := a1 x hx; omega
      have e1 : insc (q :: t) c = q :: insc t c := by
        unfold insc
        rw [List.takeWhile_cons, List.dropWhile_cons, decide_eq_true hlt]
        simp
      rw [e1, ih a2 hk]
      unfold setc
      rw [List.map_cons, if_neg h2]
theorem ccat_snoc (C : List Cp) (q : Cp) : ccat (C ++ [q]) = ccat C ++ [.int .u8 (q.k : Int), .int .i32 q.a, .int .i32 q.b, .int .i32 q.c] := by
  unfold ccat; rw [cat_append]; rfl

end Go.Proofs.YtakphfmblfdfnaaDoor
