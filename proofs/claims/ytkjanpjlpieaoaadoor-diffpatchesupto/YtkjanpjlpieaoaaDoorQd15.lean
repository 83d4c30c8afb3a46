/-
  What the document's Patch does to lists of entities, step by step.
-/
import Derived.Test.YtkjanpjlpieaoaaDoorQd11
import Derived.Test.YtkjanpjlpieaoaaDoorQd14
namespace Go.Proofs.YtkjanpjlpieaoaaDoor
open Go.RowKit
set_option linter.unusedVariables false
set_option maxRecDepth 100000

theorem find_no {L : List EnE} {i : Nat} {r : Int} (h : FindR L i r) (hr : r < 0) : fstE (evs L) i = none := by
  rcases h with ⟨_, h⟩ | ⟨j, x, rfl, _⟩
  · unfold fstE
    rw [List.find?_eq_none]
    intro y hy
    obtain ⟨z, hz, rfl⟩ := List.mem_map.1 hy
    simpa using h z hz
  · omega
theorem find_is {L : List EnE} (hU : Upe (evs L)) {i : Nat} {r : Int} (h : FindR L i r) (hr : ¬ r < 0) : ∃ (j : Nat) (x : EnE), r = (j : Int) ∧ L[j]? = some x ∧ x.id = i ∧ fstE (evs L) i = some (x.id, x.C) := by
  rcases h with ⟨rfl, _⟩ | ⟨j, x, rfl, hx, hi, _⟩
  · omega
  · exact ⟨j, x, rfl, hx, hi, by rw [← hi]; exact fsU_mem hU (x := (x.id, x.C)) (List.mem_of_getElem? (evs_at hx))⟩
theorem cut_at {α : Type} {L : List α} {j : Nat} {x : α} (hx : L[j]? = some x) : L = L.take j ++ x :: L.drop (j + 1) := by
  have hj := List.getElem?_eq_some_iff.1 hx
  rw [← hj.2, ← List.drop_eq_getElem_cons hj.1, List.take_append_drop]
theorem evs_app (A B : List EnE) : evs (A ++ B) = evs A ++ evs B := by simp [evs]
theorem upe_cut {A B : List En} {x : En} (h : Upe (A ++ x :: B)) : (∀ y ∈ A, y.1 < x.1) ∧ ∀ y ∈ B, x.1 < y.1 := by
  obtain ⟨_, h2, h3⟩ := List.pairwise_append.1 h
  exact ⟨fun y hy => h3 y hy x (by simp), (List.pairwise_cons.1 h2).1⟩
theorem dropE_at {L : List EnE} (hU : Upe (evs L)) {j : Nat} {x : EnE} (hx : L[j]? = some x) : dropE (evs L) x.id = evs (L.take j ++ L.drop (j + 1)) := by
  have hc := cut_at hx
  rw [evs_app]
  generalize L.take j = A at *
  generalize L.drop (j + 1) = B at *
  subst hc
  have e : evs (A ++ x :: B) = evs A ++ (x.id, x.C) :: evs B := by simp [evs]
  rw [e] at hU ⊢
  obtain ⟨h1, h2⟩ := upe_cut hU
  unfold dropE
  rw [List.filter_append, List.filter_cons, if_neg (by simp), List.filter_eq_self.2 (fun y hy => by have := h1 y hy; simp only at this; exact decide_eq_true (by omega)), List.filter_eq_self.2 (fun y hy => by have := h2 y hy; simp only at this; exact decide_eq_true (by omega))]
theorem setE_at {L : List EnE} (hU : Upe (evs L)) {j : Nat} {x : EnE} (hx : L[j]? = some x) (y : EnE) (hy : y.id = x.id) : setE (evs L) x.id y.C = evs (L.set j y) := by
  have hc := cut_at hx
  have hj := (List.getElem?_eq_some_iff.1 hx).1
  rw [List.set_eq_take_append_cons_drop, if_pos hj]
  generalize L.take j = A at *
  generalize L.drop (j + 1) = B at *
  subst hc
  have e : ∀ z : EnE, evs (A ++ z :: B) = evs A ++ (z.id, z.C) :: evs B := fun z => by simp [evs]
  rw [e] at hU
  rw [e, e]
  obtain ⟨h1, h2⟩ := upe_cut hU
  have k1 : ∀ l : List En, (∀ z ∈ l, z.1 ≠ x.id) → l.map (fun z => if z.1 = x.id then (z.1, y.C) else z) = l := fun l hl => by
    conv => rhs; rw [← List.map_id l]
    exact List.map_congr_left (fun z hz => by rw [if_neg (hl z hz)]; rfl)
  unfold setE
  rw [List.map_append, List.map_cons, if_pos rfl, k1 _ (fun z hz => by have := h1 z hz; simp only at this; omega), k1 _ (fun z hz => by have := h2 z hz; simp only at this; omega), hy]
theorem insE_at {A B : List En} {x e : En} (h1 : ∀ y ∈ A, y.1 < e.1) (h2 : e.1 ≤ x.1) : insE (A ++ x :: B) e = A ++ e :: x :: B := by
  induction A with
  | nil => rw [List.nil_append, insE_cons, if_neg (by omega)]; rfl
  | cons a t ih => rw [List.cons_append, insE_cons, if_pos (h1 a (by simp)), ih (fun y hy => h1 y (List.mem_cons_of_mem _ hy))]; rfl
theorem insE_end {A : List En} {e : En} (h1 : ∀ y ∈ A, y.1 < e.1) : insE A e = A ++ [e] := by
  induction A with
  | nil => rfl
  | cons a t ih => rw [insE_cons, if_pos (h1 a (by simp)), ih (fun y hy => h1 y (List.mem_cons_of_mem _ hy))]; rfl
/-- where the loop that lays an entity in stands -/
def CmI (e : EnE) (N : List EnE) (j : Nat) (out : List EnE) (done : Bool) : Prop := (done = false ∧ out = N.take j ∧ ∀ x ∈ N.take j, x.id < e.id) ∨ (done = true ∧ evs out ++ evs (N.drop j) = insE (evs N) (e.id, e.C) ∧ (∀ y ∈ out, y = e ∨ y ∈ N) ∧ out.length = j + 1)
theorem CmI.len {e : EnE} {N out : List EnE} {j : Nat} {d : Bool} (h : CmI e N j out d) (hj : j ≤ N.length) : out.length = j + (if d then 1 else 0) := by
  rcases h with ⟨rfl, rfl, _⟩ | ⟨rfl, _, _, h⟩
  · rw [List.length_take]; simp; omega
  · rw [h]; simp
theorem evs_drop {N : List EnE} {j : Nat} {x : EnE} (hx : N[j]? = some x) : evs (N.drop j) = (x.id, x.C) :: evs (N.drop (j + 1)) := by
  have hj := List.getElem?_eq_some_iff.1 hx
  rw [List.drop_eq_getElem_cons hj.1, hj.2]; simp [evs]
theorem CmI.put {e : EnE} {N out : List EnE} {j : Nat} {x : EnE} (h : CmI e N j out false) (hx : N[j]? = some x) (hle : e.id ≤ x.id) : CmI e N (j + 1) (out ++ [e] ++ [x]) true := by
  rcases h with ⟨_, rfl, h⟩ | ⟨h, _⟩
  · refine .inr ⟨rfl, ?_, ?_, by have := (List.getElem?_eq_some_iff.1 hx).1; simp; omega⟩
    · have hc := cut_at hx
      have e2 : evs N = evs (N.take j) ++ (x.id, x.C) :: evs (N.drop (j + 1)) := by
        conv => lhs; rw [hc]
        simp [evs]
      rw [e2, insE_at (fun y hy => by obtain ⟨z, hz, rfl⟩ := List.mem_map.1 hy; exact h z hz) hle]
      simp [evs]
    · intro y hy
      simp only [List.append_assoc, List.mem_append, List.cons_append, List.nil_append, List.mem_cons, List.not_mem_nil, or_false] at hy
      rcases hy with hy | rfl | rfl
      · exact .inr (List.mem_of_mem_take hy)
      · exact .inl rfl
      · exact .inr (List.mem_of_getElem? hx)
  · cases h
theorem CmI.by {e : EnE} {N out : List EnE} {j : Nat} {x : EnE} (h : CmI e N j out false) (hx : N[j]? = some x) (hle : ¬ e.id ≤ x.id) : CmI e N (j + 1) (out ++ [x]) false := by
  rcases h with ⟨_, rfl, h⟩ | ⟨h, _⟩
  · have e1 : N.take j ++ [x] = N.take (j + 1) := by rw [List.take_add_one, hx]; rfl
    refine .inl ⟨rfl, e1, fun y hy => ?_⟩
    rw [← e1] at hy
    rcases List.mem_append.1 hy with hy | hy
    · exact h y hy
    · rw [List.mem_singleton.1 hy]; omega
  · cases h
theorem CmI.on {e : EnE} {N out : List EnE} {j : Nat} {x : EnE} (h : CmI e N j out true) (hx : N[j]? = some x) : CmI e N (j + 1) (out ++ [x]) true := by
  rcases h with ⟨h, _⟩ | ⟨_, h1, h2, h3⟩
  · cases h
  · refine .inr ⟨rfl, ?_, ?_, by simp; omega⟩
    · rw [← h1, evs_drop hx]; simp [evs]
    · intro y hy
      rcases List.mem_append.1 hy with hy | hy
      · exact h2 y hy
      · rw [List.mem_singleton.1 hy]; exact .inr (List.mem_of_getElem? hx)
theorem CmI.fin0 {e : EnE} {N out : List EnE} {j : Nat} (h : CmI e N j out false) (hj : N.length ≤ j) : evs (out ++ [e]) = insE (evs N) (e.id, e.C) ∧ (∀ y ∈ out ++ [e], y = e ∨ y ∈ N) ∧ out.length = N.length := by
  rcases h with ⟨_, rfl, h⟩ | ⟨h, _⟩
  · rw [List.take_of_length_le hj] at h ⊢
    refine ⟨?_, fun y hy => ?_, rfl⟩
    · rw [insE_end (fun y hy => by obtain ⟨z, hz, rfl⟩ := List.mem_map.1 hy; exact h z hz)]
      simp [evs]
    · rcases List.mem_append.1 hy with hy | hy
      · exact .inr hy
      · exact .inl (List.mem_singleton.1 hy)
  · cases h
theorem CmI.fin1 {e : EnE} {N out : List EnE} {j : Nat} (h : CmI e N j out true) (hj : N.length ≤ j) : evs out = insE (evs N) (e.id, e.C) ∧ (∀ y ∈ out, y = e ∨ y ∈ N) := by
  rcases h with ⟨h, _⟩ | ⟨_, h1, h2, _⟩
  · cases h
  · refine ⟨?_, h2⟩
    rw [← h1, List.drop_eq_nil_of_le hj]; simp [evs]
theorem drop_at {α : Type} {L : List α} {j : Nat} {x : α} (hx : L[j]? = some x) : L.drop j = x :: L.drop (j + 1) := by
  have hj := List.getElem?_eq_some_iff.1 hx
  rw [List.drop_eq_getElem_cons hj.1, hj.2]
theorem range8 : ∀ (j : Fin 8), (List.range 8).drop j.1 = j.1 :: (List.range 8).drop (j.1 + 1) := by decide
theorem dropK_no {lost j : Nat} {l : List Cp} (hj : j < 8) (h : lost / 2 ^ j % 2 = 0) : dropK lost ((List.range 8).drop j) l = dropK lost ((List.range 8).drop (j + 1)) l := by
  rw [range8 ⟨j, hj⟩]; simp only [dropK, if_pos h]
theorem dropK_bad {lost j : Nat} {l : List Cp} (hj : j < 8) (h : ¬ lost / 2 ^ j % 2 = 0) (hk : hasK l j = false) : dropK lost ((List.range 8).drop j) l = none := by
  rw [range8 ⟨j, hj⟩]; simp only [dropK, if_neg h, hk]; simp
theorem dropK_is {lost j : Nat} {l : List Cp} (hj : j < 8) (h : ¬ lost / 2 ^ j % 2 = 0) (hk : hasK l j = true) : dropK lost ((List.range 8).drop j) l = dropK lost ((List.range 8).drop (j + 1)) (outk l j) := by
  rw [range8 ⟨j, hj⟩]; simp only [dropK, if_neg h, hk, if_true]
theorem dropK_end {lost j : Nat} {l : List Cp} (hj : 8 ≤ j) : dropK lost ((List.range 8).drop j) l = some l := by
  rw [List.drop_eq_nil_of_le (by simp; omega)]; rfl
theorem putNew_bad {C l xs : List Cp} {j : Nat} {x : Cp} (hx : xs[j]? = some x) (h : hasK C x.k = true) : putNew C l (xs.drop j) = none := by
  rw [drop_at hx]; simp only [putNew, h, if_true]
theorem putNew_is {C l xs : List Cp} {j : Nat} {x : Cp} (hx : xs[j]? = some x) (h : hasK C x.k = false) : putNew C l (xs.drop j) = putNew C (insc l x) (xs.drop (j + 1)) := by
  rw [drop_at hx]; simp only [putNew, h]; simp
theorem putNew_end {C l xs : List Cp} {j : Nat} (hj : xs.length ≤ j) : putNew C l (xs.drop j) = some l := by
  rw [List.drop_eq_nil_of_le hj]; simp only [putNew]
theorem putSet_bad {l xs : List Cp} {j : Nat} {x : Cp} (hx : xs[j]? = some x) (h : hasK l x.k = false) : putSet l (xs.drop j) = none := by
  rw [drop_at hx]; simp only [putSet, h]; simp
theorem putSet_is {l xs : List Cp} {j : Nat} {x : Cp} (hx : xs[j]? = some x) (h : hasK l x.k = true) : putSet l (xs.drop j) = putSet (insc l x) (xs.drop (j + 1)) := by
  rw [drop_at hx]; simp only [putSet, h, if_true]
theorem putSet_end {l xs : List Cp} {j : Nat} (hj : xs.length ≤ j) : putSet l (xs.drop j) = some l := by
  rw [List.drop_eq_nil_of_le hj]; simp only [putSet]
theorem goGone_bad {L : List En} {gs : List Nat} {j g : Nat} (hx : gs[j]? = some g) (h : fstE L g = none) : goGone L (gs.drop j) = none := by
  rw [drop_at hx]; simp only [goGone, h]; simp
theorem goGone_is {L : List En} {gs : List Nat} {j g : Nat} {e : En} (hx : gs[j]? = some g) (h : fstE L g = some e) : goGone L (gs.drop j) = goGone (dropE L g) (gs.drop (j + 1)) := by
  rw [drop_at hx]; simp only [goGone, h]; simp
theorem goGone_end {L : List En} {gs : List Nat} {j : Nat} (hj : gs.length ≤ j) : goGone L (gs.drop j) = some L := by
  rw [List.drop_eq_nil_of_le hj]; simp only [goGone]
theorem goChg_bad {L : List En} {cs : List Chg} {j : Nat} {c : Chg} (hx : cs[j]? = some c) (h : chgE L c = none) : goChg L (cs.drop j) = none := by
  rw [drop_at hx]; simp only [goChg, h]
theorem goChg_is {L L' : List En} {cs : List Chg} {j : Nat} {c : Chg} (hx : cs[j]? = some c) (h : chgE L c = some L') : goChg L (cs.drop j) = goChg L' (cs.drop (j + 1)) := by
  rw [drop_at hx]; simp only [goChg, h]
theorem goChg_end {L : List En} {cs : List Chg} {j : Nat} (hj : cs.length ≤ j) : goChg L (cs.drop j) = some L := by
  rw [List.drop_eq_nil_of_le hj]; simp only [goChg]
theorem goCome_bad {W L es : List En} {j : Nat} {e : En} (hx : es[j]? = some e) {x : En} (h : fstE W e.1 = some x) : goCome W L (es.drop j) = none := by
  rw [drop_at hx]; simp only [goCome, h]; simp
theorem goCome_is {W L es : List En} {j : Nat} {e : En} (hx : es[j]? = some e) (h : fstE W e.1 = none) : goCome W L (es.drop j) = goCome W (insE L e) (es.drop (j + 1)) := by
  rw [drop_at hx]; simp only [goCome, h]; simp
theorem goCome_end {W L es : List En} {j : Nat} (hj : es.length ≤ j) : goCome W L (es.drop j) = some L := by
  rw [List.drop_eq_nil_of_le hj]; simp only [goCome]
theorem dropE_up {L : List En} (h : Upe L) (g : Nat) : Upe (dropE L g) := h.filter _
end Go.Proofs.YtkjanpjlpieaoaaDoor

