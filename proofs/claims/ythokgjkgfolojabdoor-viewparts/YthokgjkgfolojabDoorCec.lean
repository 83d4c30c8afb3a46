/-
  The grid as a list of who is where.
-/
import Derived.Test.YthokgjkgfolojabDoorCeb
namespace Go.Proofs.YthokgjkgfolojabDoor
open Go.RowKit Go.Maps
set_option linter.unusedVariables false
set_option maxRecDepth 100000

/-- an entity and its place -/
abbrev Spt := Nat × Int × Int
def scl (s : Spt) : Cll := (cel s.2.1, cel s.2.2)
/-- where somebody is -/
def hom (L : List Spt) (id : Nat) : Option Cll := (L.find? (fun s => decide (s.1 = id))).map scl
/-- who is in a cell -/
def crd (L : List Spt) (c : Cll) : List Nat := (L.filter (fun s => decide (scl s = c))).map (·.1)
/-- by rising IDs -/
def Rise (L : List Spt) : Prop := L.Pairwise (fun a b => a.1 < b.1)
def dropL (L : List Spt) (id : Nat) : List Spt := L.filter (fun s => decide (s.1 ≠ id))
def putL (L : List Spt) (s : Spt) : List Spt := L.filter (fun t => decide (t.1 < s.1)) ++ s :: L.filter (fun t => decide (s.1 < t.1))
theorem Rise.uniq {L : List Spt} (h : Rise L) {s t : Spt} (hs : s ∈ L) (ht : t ∈ L) (e : s.1 = t.1) : s = t := by
  induction L with
  | nil => cases hs
  | cons a L ih =>
    obtain ⟨h1, h2⟩ := List.pairwise_cons.1 h
    rcases List.mem_cons.1 hs with rfl | hs' <;> rcases List.mem_cons.1 ht with rfl | ht'
    · rfl
    · have := h1 _ ht'; omega
    · have := h1 _ hs'; omega
    · exact ih h2 hs' ht'
theorem hom_some {L : List Spt} (h : Rise L) {id : Nat} {c : Cll} : hom L id = some c ↔ ∃ s ∈ L, s.1 = id ∧ scl s = c := by
  unfold hom
  rw [Option.map_eq_some_iff]
  constructor
  · rintro ⟨s, hs, rfl⟩
    have := List.find?_some hs
    exact ⟨s, List.mem_of_find?_eq_some hs, by simpa using this, rfl⟩
  · rintro ⟨s, hs, h1, rfl⟩
    cases hf : L.find? (fun s => decide (s.1 = id)) with
    | none =>
      have := List.find?_eq_none.1 hf s hs
      simp [h1] at this
    | some t =>
      have h2 := List.find?_some hf
      exact ⟨t, rfl, by rw [h.uniq (List.mem_of_find?_eq_some hf) hs (by rw [h1]; simpa using h2)]⟩
theorem hom_none {L : List Spt} {id : Nat} : hom L id = none ↔ ∀ s ∈ L, s.1 ≠ id := by
  unfold hom
  rw [Option.map_eq_none_iff, List.find?_eq_none]
  simp
theorem mem_crd {L : List Spt} {c : Cll} {id : Nat} : id ∈ crd L c ↔ ∃ s ∈ L, s.1 = id ∧ scl s = c := by
  unfold crd
  rw [List.mem_map]
  constructor
  · rintro ⟨s, hs, rfl⟩
    obtain ⟨h1, h2⟩ := List.mem_filter.1 hs
    exact ⟨s, h1, rfl, by simpa using h2⟩
  · rintro ⟨s, hs, rfl, h2⟩
    exact ⟨s, List.mem_filter.2 ⟨hs, by simpa using h2⟩, rfl⟩
theorem mem_crd_hom {L : List Spt} (h : Rise L) {c : Cll} {id : Nat} : id ∈ crd L c ↔ hom L id = some c := by
  rw [mem_crd, hom_some h]
theorem Rise.drop {L : List Spt} (h : Rise L) (id : Nat) : Rise (dropL L id) := List.Pairwise.filter _ h
theorem Rise.put {L : List Spt} (h : Rise L) (s : Spt) : Rise (putL L s) := by
  unfold putL Rise
  rw [List.pairwise_append]
  refine ⟨List.Pairwise.filter _ h, List.pairwise_cons.2 ⟨?_, List.Pairwise.filter _ h⟩, ?_⟩
  · intro t ht
    have := (List.mem_filter.1 ht).2
    simpa using this
  · intro a ha b hb
    have h1 := (List.mem_filter.1 ha).2
    simp at h1
    rcases List.mem_cons.1 hb with rfl | hb
    · exact h1
    · have h2 := (List.mem_filter.1 hb).2
      simp at h2
      omega
theorem mem_put {L : List Spt} {s t : Spt} : t ∈ putL L s ↔ t = s ∨ (t ∈ L ∧ t.1 ≠ s.1) := by
  unfold putL
  simp only [List.mem_append, List.mem_cons, List.mem_filter, decide_eq_true_eq]
  constructor
  · rintro (⟨h1, h2⟩ | rfl | ⟨h1, h2⟩)
    · exact .inr ⟨h1, by omega⟩
    · exact .inl rfl
    · exact .inr ⟨h1, by omega⟩
  · rintro (rfl | ⟨h1, h2⟩)
    · exact .inr (.inl rfl)
    · rcases Nat.lt_or_gt_of_ne h2 with h | h
      · exact .inl ⟨h1, h⟩
      · exact .inr (.inr ⟨h1, h⟩)
theorem mem_drop {L : List Spt} {id : Nat} {t : Spt} : t ∈ dropL L id ↔ t ∈ L ∧ t.1 ≠ id := by
  unfold dropL; simp
theorem put_drop {L : List Spt} (s : Spt) : putL (dropL L s.1) s = putL L s := by
  unfold putL dropL
  rw [List.filter_filter, List.filter_filter]
  congr 1
  · apply List.filter_congr; intro t _; by_cases h : t.1 < s.1 <;> simp [h]; omega
  · congr 1; apply List.filter_congr; intro t _; by_cases h : s.1 < t.1 <;> simp [h]; omega
theorem hom_drop {L : List Spt} (h : Rise L) (id y : Nat) : hom (dropL L id) y = if y = id then none else hom L y := by
  by_cases e : y = id
  · subst e
    rw [if_pos rfl, hom_none]
    intro s hs
    exact (mem_drop.1 hs).2
  · rw [if_neg e]
    apply Option.ext
    intro c
    rw [hom_some (h.drop id), hom_some h]
    constructor
    · rintro ⟨s, hs, h1, h2⟩
      exact ⟨s, (mem_drop.1 hs).1, h1, h2⟩
    · rintro ⟨s, hs, h1, h2⟩
      exact ⟨s, mem_drop.2 ⟨hs, by omega⟩, h1, h2⟩
theorem hom_put {L : List Spt} (h : Rise L) (s : Spt) (y : Nat) : hom (putL L s) y = if y = s.1 then some (scl s) else hom L y := by
  apply Option.ext
  intro c
  rw [hom_some (h.put s)]
  by_cases e : y = s.1
  · subst e
    rw [if_pos rfl]
    constructor
    · rintro ⟨t, ht, h1, rfl⟩
      rcases mem_put.1 ht with rfl | ⟨_, h2⟩
      · rfl
      · exact absurd h1 h2
    · intro hc
      cases hc
      exact ⟨s, mem_put.2 (.inl rfl), rfl, rfl⟩
  · rw [if_neg e, hom_some h]
    constructor
    · rintro ⟨t, ht, h1, rfl⟩
      rcases mem_put.1 ht with rfl | ⟨h3, _⟩
      · exact absurd h1.symm e
      · exact ⟨t, h3, h1, rfl⟩
    · rintro ⟨t, ht, h1, rfl⟩
      exact ⟨t, mem_put.2 (.inr ⟨ht, by omega⟩), h1, rfl⟩
theorem len_drop {L : List Spt} (h : Rise L) {id : Nat} {c : Cll} (hc : hom L id = some c) : (dropL L id).length + 1 = L.length := by
  obtain ⟨s, hs, rfl, _⟩ := (hom_some h).1 hc
  clear hc
  unfold dropL
  induction L with
  | nil => cases hs
  | cons a L ih =>
    obtain ⟨h1, h2⟩ := List.pairwise_cons.1 h
    rcases List.mem_cons.1 hs with rfl | hs'
    · have : List.filter (fun t => decide (t.1 ≠ s.1)) L = L := by
        rw [List.filter_eq_self]
        intro t ht
        have := h1 t ht
        simp; omega
      rw [List.filter_cons, if_neg (by simp), this]
      rfl
    · have hne : a.1 ≠ s.1 := by have := h1 s hs'; omega
      have := ih h2 hs'
      rw [List.filter_cons, if_pos (by simpa using hne), List.length_cons, List.length_cons]
      omega
theorem len_put {L : List Spt} (h : Rise L) (s : Spt) (hn : hom L s.1 = none) : (putL L s).length = L.length + 1 := by
  rw [hom_none] at hn
  unfold putL
  have : ∀ M : List Spt, (∀ t ∈ M, t.1 ≠ s.1) → (M.filter (fun t => decide (t.1 < s.1))).length + (M.filter (fun t => decide (s.1 < t.1))).length = M.length := by
    intro M hM
    induction M with
    | nil => rfl
    | cons a M ih =>
      have h1 := hM a (List.mem_cons_self ..)
      have h2 := ih (fun t ht => hM t (List.mem_cons_of_mem _ ht))
      rcases Nat.lt_or_gt_of_ne h1 with h | h
      · have h' : ¬ s.1 < a.1 := by omega
        simp [h, h']; omega
      · have h' : ¬ a.1 < s.1 := by omega
        simp [h, h']; omega
  have := this L hn
  simp; omega
theorem crd_nodup {L : List Spt} (h : Rise L) (c : Cll) : (crd L c).Nodup := by
  unfold crd
  rw [List.Nodup, List.pairwise_map]
  exact (List.Pairwise.filter _ h).imp (fun hab => by omega)
theorem ids_nodup {L : List Spt} (h : Rise L) : (L.map (·.1)).Nodup := by
  rw [List.Nodup, List.pairwise_map]
  exact h.imp (fun hab => by omega)
/-- two lists without a thing twice that have the same things are as long -/
theorem len_same {α : Type} [DecidableEq α] {A B : List α} (hA : A.Nodup) (hB : B.Nodup) (h : ∀ x, x ∈ A ↔ x ∈ B) : A.length = B.length :=
  ((List.perm_ext_iff_of_nodup hA hB).2 h).length_eq
end Go.Proofs.YthokgjkgfolojabDoor
