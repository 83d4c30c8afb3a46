/-
  A box cut in two.
-/
import Derived.Test.YthokgjkgfolojaaDoorCem
namespace Go.Proofs.YthokgjkgfolojaaDoor
open Go.RowKit
set_option linter.unusedVariables false

/-- two lists that are put together again by always taking the one that is next -/
theorem parts_step {A B : List Nat} {T : List Nat} {t : Nat} (hT : (t :: T).Pairwise (· < ·)) (hA : A.Pairwise (· < ·)) (hB : B.Pairwise (· < ·)) (hm : ∀ x, x ∈ t :: T ↔ (x ∈ A ∨ x ∈ B)) (hd : ∀ x, x ∈ A → x ∉ B) : (∃ A', A = t :: A' ∧ (∀ x, x ∈ T ↔ (x ∈ A' ∨ x ∈ B))) ∨ ((∀ A', A ≠ t :: A') ∧ ∃ B', B = t :: B' ∧ (∀ x, x ∈ T ↔ (x ∈ A ∨ x ∈ B'))) := by
  obtain ⟨t1, t2⟩ := List.pairwise_cons.1 hT
  have hnt : t ∉ T := fun h => by have := t1 t h; omega
  by_cases hA' : ∃ A', A = t :: A'
  · obtain ⟨A', rfl⟩ := hA'
    refine .inl ⟨A', rfl, fun x => ?_⟩
    have hx := hm x
    simp only [List.mem_cons] at hx
    have hnA : t ∉ A' := fun h => by have := (List.pairwise_cons.1 hA).1 t h; omega
    have hnB : t ∉ B := hd t (List.mem_cons_self ..)
    by_cases e : x = t
    · subst e; simp [hnt, hnA, hnB]
    · simp [e] at hx; exact hx
  · refine .inr ⟨fun A' h => hA' ⟨A', h⟩, ?_⟩
    have hmin : ∀ x, x ∈ A ∨ x ∈ B → t ≤ x := fun x hx => by
      rcases List.mem_cons.1 ((hm x).2 hx) with e | e
      · omega
      · have := t1 x e; omega
    have htA : t ∉ A := by
      intro h
      cases A with
      | nil => cases h
      | cons a A' =>
        rcases List.mem_cons.1 h with e | e
        · exact hA' ⟨A', by rw [e]⟩
        · have := (List.pairwise_cons.1 hA).1 t e
          have := hmin a (.inl (List.mem_cons_self ..))
          omega
    have htB : t ∈ B := by
      rcases (hm t).1 (List.mem_cons_self ..) with h | h
      · exact absurd h htA
      · exact h
    cases B with
    | nil => cases htB
    | cons b B' =>
      have e : b = t := by
        rcases List.mem_cons.1 htB with e | e
        · exact e.symm
        · have := (List.pairwise_cons.1 hB).1 t e
          have := hmin b (.inr (List.mem_cons_self ..))
          omega
      subst e
      refine ⟨B', rfl, fun x => ?_⟩
      have hx := hm x
      simp only [List.mem_cons] at hx
      have hnB : b ∉ B' := fun h => by have := (List.pairwise_cons.1 hB).1 b h; omega
      by_cases e : x = b
      · subst e; simp [hnt, htA, hnB]
      · simp [e] at hx; exact hx
theorem parts_len {A B T : List Nat} (hT : T.Nodup) (hA : A.Nodup) (hB : B.Nodup) (hm : ∀ x, x ∈ T ↔ (x ∈ A ∨ x ∈ B)) (hd : ∀ x, x ∈ A → x ∉ B) : A.length + B.length = T.length := by
  have := len_same (A := A ++ B) (B := T) (List.nodup_append.2 ⟨hA, hB, fun a ha b hb e => hd a ha (by rw [e]; exact hb)⟩) hT (fun x => by rw [List.mem_append, hm])
  simpa using this
theorem box_all {L : List Spt} (h : GAll L 80) : boxL L (-32) (-32) 31 31 = L.map (·.1) := by
  unfold boxL
  congr 1
  rw [List.filter_eq_self]
  intro s hs
  have := h.inn.cell h.ok.1 ((hom_some h.ok.1).2 ⟨s, hs, rfl, rfl⟩)
  simp [inB]
  omega
theorem box_parts {L : List Spt} (h : GAll L 80) (k : Int) : (∀ x, x ∈ boxL L (-32) (-32) 31 31 ↔ (x ∈ boxL L (-32) (-32) k 31 ∨ x ∈ boxL L (k + 1) (-32) 31 31)) ∧ (∀ x, x ∈ boxL L (-32) (-32) k 31 → x ∉ boxL L (k + 1) (-32) 31 31) := by
  constructor
  · intro x
    rw [mem_box h.ok.1, mem_box h.ok.1, mem_box h.ok.1]
    constructor
    · rintro ⟨c, hc, hb⟩
      simp [inB] at hb
      by_cases e : c.1 ≤ k
      · exact .inl ⟨c, hc, by simp [inB]; omega⟩
      · exact .inr ⟨c, hc, by simp [inB]; omega⟩
    · rintro (⟨c, hc, _⟩ | ⟨c, hc, _⟩)
      all_goals
        have := h.inn.cell h.ok.1 hc
        exact ⟨c, hc, by simp [inB]; omega⟩
  · intro x hx hy
    rw [mem_box h.ok.1] at hx hy
    obtain ⟨c, hc, hb⟩ := hx
    obtain ⟨c', hc', hb'⟩ := hy
    rw [hc] at hc'
    cases hc'
    simp [inB] at hb hb'
    omega
theorem box_parts2 {L : List Spt} (h : GAll L 80) (k : Int) : (∀ x, x ∈ boxL L (-32) (-32) 31 31 ↔ (x ∈ boxL L (-32) (-32) 31 k ∨ x ∈ boxL L (-32) (k + 1) 31 31)) ∧ (∀ x, x ∈ boxL L (-32) (-32) 31 k → x ∉ boxL L (-32) (k + 1) 31 31) := by
  constructor
  · intro x
    rw [mem_box h.ok.1, mem_box h.ok.1, mem_box h.ok.1]
    constructor
    · rintro ⟨c, hc, hb⟩
      simp [inB] at hb
      by_cases e : c.2 ≤ k
      · exact .inl ⟨c, hc, by simp [inB]; omega⟩
      · exact .inr ⟨c, hc, by simp [inB]; omega⟩
    · rintro (⟨c, hc, _⟩ | ⟨c, hc, _⟩)
      all_goals
        have := h.inn.cell h.ok.1 hc
        exact ⟨c, hc, by simp [inB]; omega⟩
  · intro x hx hy
    rw [mem_box h.ok.1] at hx hy
    obtain ⟨c, hc, hb⟩ := hx
    obtain ⟨c', hc', hb'⟩ := hy
    rw [hc] at hc'
    cases hc'
    simp [inB] at hb hb'
    omega
/-- a slice of IDs that can be read and cut -/
def NumsC (w : World) (ao : Option Addr) (cap : Nat) (X : List Nat) : Prop := X.length ≤ cap ∧ cap ≤ maxLen ∧ (X = [] ∨ ∃ g o, ao = some ⟨g, o, none⟩ ∧ ∀ (j x : Nat), X[j]? = some x → w.cell? ⟨g, o + j, none⟩ = some (.int .u32 (x : Int)))
theorem Own.numsC {w0 w : World} {l : List Thing} {e : TypeId} {ao : Option Addr} {cap : Nat} {X : List Nat} (h : Own w0 w (Row e 1 (.slice ao X.length cap) X.length (irow .u32 X) :: l)) : NumsC w ao cap X := by
  have r := h.row
  rcases r.2 with ⟨hv, h0⟩ | ⟨g, cap', cur, hv, _, _, h1, h2, _⟩
  · obtain ⟨rfl, _, rfl⟩ := Value.slice.inj hv
    exact ⟨by omega, Nat.zero_le _, .inl (List.eq_nil_of_length_eq_zero h0)⟩
  · obtain ⟨rfl, _, rfl⟩ := Value.slice.inj hv
    refine ⟨h1, h2, .inr ⟨g, 0, rfl, fun j x hx => ?_⟩⟩
    have hj := (List.getElem?_eq_some_iff.1 hx).1
    rw [Nat.zero_add, r.cellAt _ (by omega), getElem?_irow, hx]; rfl
theorem NumsC.quiet {w w' : World} {ao : Option Addr} {cap : Nat} {X : List Nat} (h : NumsC w ao cap X) (hf : Fr Nobody w w') : NumsC w' ao cap X := by
  obtain ⟨h1, h2, h3⟩ := h
  refine ⟨h1, h2, ?_⟩
  rcases h3 with h3 | ⟨g, o, ha, hc⟩
  · exact .inl h3
  · refine .inr ⟨g, o, ha, fun j x hx => ?_⟩
    have h4 := hc j x hx
    exact (hf.cell (p := ⟨g, o + j, none⟩) (World.block_lt_of_cell? w _ h4) id).trans h4
theorem NumsC.tail {w : World} {g o cap x : Nat} {X : List Nat} (h : NumsC w (some ⟨g, o, none⟩) cap (x :: X)) : NumsC w (some ⟨g, o + 1, none⟩) (cap - 1) X := by
  obtain ⟨h1, h2, h3⟩ := h
  simp at h1
  refine ⟨by omega, by omega, ?_⟩
  rcases h3 with h3 | ⟨g', o', ha, hc⟩
  · cases h3
  · obtain ⟨rfl, rfl⟩ : g = g' ∧ o = o' := by simpa using ha
    refine .inr ⟨g, o + 1, rfl, fun j y hy => ?_⟩
    have := hc (j + 1) y (by simpa using hy)
    rw [show o + 1 + j = o + (j + 1) by omega]
    exact this
theorem NumsC.tl {w : World} {g o cap x : Nat} {X : List Nat} (h : NumsC w (some ⟨g, o, none⟩) cap (x :: X)) : NumsC w (if cap = 1 then some ⟨g, o, none⟩ else some ⟨g, o + 1, none⟩) (cap - 1) X := by
  by_cases e : cap = 1
  · have h1 := h.1
    have h2 := h.2.1
    simp at h1
    exact ⟨by omega, by omega, .inl (List.eq_nil_of_length_eq_zero (by omega))⟩
  · rw [if_neg e]; exact h.tail
theorem NumsC.head {w : World} {ao : Option Addr} {cap x : Nat} {X : List Nat} (h : NumsC w ao cap (x :: X)) : ∃ g o, ao = some ⟨g, o, none⟩ ∧ w.cell? ⟨g, o, none⟩ = some (.int .u32 (x : Int)) ∧ X.length + 1 ≤ cap := by
  obtain ⟨h1, h2, h3⟩ := h
  rcases h3 with h3 | ⟨g, o, ha, hc⟩
  · cases h3
  · exact ⟨g, o, ha, by have := hc 0 x rfl; simpa using this, by simpa using h1⟩
end Go.Proofs.YthokgjkgfolojaaDoor
