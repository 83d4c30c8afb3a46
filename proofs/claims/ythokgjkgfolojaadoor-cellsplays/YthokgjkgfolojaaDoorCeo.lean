/-
  Scripts of who comes and goes; everybody in one cell.
-/
import Derived.Test.YthokgjkgfolojaaDoorCen
namespace Go.Proofs.YthokgjkgfolojaaDoor
open Go.RowKit
set_option linter.unusedVariables false

/-- one who comes or goes -/
def dstep (L : List Spt) (q : Opq) : List Spt := if q.d < 4 then pstep L q else dropL L q.i
def playsD (Q : List Opq) : List Spt := Q.foldl dstep []
theorem GAll.dst {L : List Spt} {n : Nat} (h : GAll L n) (q : Opq) (hq : q.i < 4294967296) : GAll (dstep L q) (n + 1) := by
  unfold dstep
  by_cases h4 : q.d < 4
  · rw [if_pos h4]; exact h.put q hq
  · rw [if_neg h4]; exact (h.drop _).mono (by omega)
theorem take_stepD {Q : List Opq} {j : Nat} {q : Opq} (h : Q[j]? = some q) (hj : j < 80) : playsD (Q.take (min (j + 1) 80)) = dstep (playsD (Q.take (min j 80))) q := by
  rw [Nat.min_eq_left (by omega), Nat.min_eq_left (by omega), List.take_add_one, h]
  unfold playsD
  rw [List.foldl_append]
  rfl
theorem take_stayD {Q : List Opq} {j : Nat} (hj : ¬ j < 80) : playsD (Q.take (min (j + 1) 80)) = playsD (Q.take (min j 80)) := by
  rw [Nat.min_eq_right (by omega), Nat.min_eq_right (by omega)]
theorem playsD_all {w : World} {ao : Option Addr} {len cap : Nat} {Q : List Opq} (h : IsOps w ao len cap Q) {j : Nat} (hj : j ≤ 80) : GAll (playsD (Q.take (min j 80))) j := by
  rw [Nat.min_eq_left hj]
  clear hj
  induction j with
  | zero => exact GAll.nil
  | succ j ih =>
    by_cases hl : j < len
    · obtain ⟨_, _, q, _, hq, _, d2, _⟩ := op_cells h (Fr.refl _ _) hl
      have e : playsD (Q.take (j + 1)) = dstep (playsD (Q.take j)) q := by
        unfold playsD
        rw [List.take_add_one, hq, List.foldl_append]
        rfl
      rw [e]
      exact ih.dst q d2
    · have e : Q.take (j + 1) = Q.take j := by rw [List.take_of_length_le (by have := h.1; omega), List.take_of_length_le (by have := h.1; omega)]
      rw [e]
      exact ih.mono (by omega)
theorem box_whl {L : List Spt} (h : Rise L) (x y : Int) : whl (crd L (x, y)) (boxL L x y x y) := by
  refine ⟨(box_inc h _ _ _ _).imp Nat.ne_of_lt, fun id => ?_⟩
  rw [mem_box h, mem_crd_hom h]
  constructor
  · rintro ⟨c, hc, hb⟩
    simp [inB] at hb
    rw [hc]
    congr 1
    exact Prod.ext (by simp only; omega) (by simp only; omega)
  · intro hc
    exact ⟨_, hc, by simp [inB]⟩
/-- the cells that have somebody, of those that were gone through -/
def Usd (L : List Spt) (x y : Int) (U : List Cll) : Prop := U.Nodup ∧ ∀ c, c ∈ U ↔ (crd L c ≠ [] ∧ ((-32 ≤ c.1 ∧ c.1 < x ∧ -32 ≤ c.2 ∧ c.2 ≤ 31) ∨ (c.1 = x ∧ -32 ≤ c.2 ∧ c.2 < y)))
theorem Usd.start (L : List Spt) : Usd L (-32) (-32) [] := by
  refine ⟨List.nodup_nil, fun c => ⟨fun h => (by cases h), ?_⟩⟩
  rintro ⟨_, h⟩
  omega
theorem Usd.stepN {L : List Spt} {x y : Int} {U : List Cll} (h : Usd L x y U) (hx : -32 ≤ x) (hy : -32 ≤ y) (hn : crd L (x, y) = []) : Usd L x (y + 1) U := by
  refine ⟨h.1, fun c => ?_⟩
  rw [h.2]
  constructor
  · rintro ⟨h1, h2⟩
    exact ⟨h1, by omega⟩
  · rintro ⟨h1, h2⟩
    refine ⟨h1, ?_⟩
    have : ¬ (c.1 = x ∧ c.2 = y) := fun q => h1 (by have e : c = (x, y) := Prod.ext q.1 q.2; rw [e]; exact hn)
    omega
theorem Usd.stepY {L : List Spt} {x y : Int} {U : List Cll} (h : Usd L x y U) (hx : -32 ≤ x) (hy : -32 ≤ y) (hn : crd L (x, y) ≠ []) : Usd L x (y + 1) (U ++ [(x, y)]) := by
  refine ⟨List.nodup_append.2 ⟨h.1, by simp, fun a ha b hb e => ?_⟩, fun c => ?_⟩
  · simp at hb
    subst e
    subst hb
    have := (h.2 _).1 ha
    simp only at this
    omega
  · rw [List.mem_append, h.2, List.mem_singleton]
    constructor
    · rintro (⟨h1, h2⟩ | rfl)
      · exact ⟨h1, by omega⟩
      · exact ⟨hn, .inr ⟨rfl, hy, by simp only; omega⟩⟩
    · rintro ⟨h1, h2⟩
      by_cases e : c = (x, y)
      · exact .inr e
      · refine .inl ⟨h1, ?_⟩
        have : ¬ (c.1 = x ∧ c.2 = y) := fun q => e (Prod.ext q.1 q.2)
        omega
theorem Usd.col {L : List Spt} {x y : Int} {U : List Cll} (h : Usd L x y U) (hx : -32 ≤ x) (hy : y = 32) : Usd L (x + 1) (-32) U := by
  refine ⟨h.1, fun c => ?_⟩
  rw [h.2]
  constructor
  · rintro ⟨h1, h2⟩
    exact ⟨h1, by omega⟩
  · rintro ⟨h1, h2⟩
    exact ⟨h1, by omega⟩
theorem Usd.whole {L : List Spt} (h : GAll L 80) {U : List Cll} (hU : Usd L 32 (-32) U) : U.length = usedL L := by
  obtain ⟨N, h1, h2, h3⟩ := usedN_list L L.length (Nat.le_refl _)
  unfold usedL
  rw [← h3]
  refine len_same hU.1 h1 (fun c => ?_)
  rw [hU.2, h2, List.take_length, List.mem_map]
  constructor
  · rintro ⟨h4, _⟩
    obtain ⟨y, hy⟩ := List.exists_mem_of_ne_nil _ h4
    obtain ⟨s, hs, _, e⟩ := mem_crd.1 hy
    exact ⟨s, hs, e⟩
  · rintro ⟨s, hs, rfl⟩
    refine ⟨fun e => ?_, ?_⟩
    · have : s.1 ∈ crd L (scl s) := mem_crd.2 ⟨s, hs, rfl, rfl⟩
      rw [e] at this
      cases this
    · have := h.inn.cell h.ok.1 ((hom_some h.ok.1).2 ⟨s, hs, rfl, rfl⟩)
      omega
theorem Usd.len {L : List Spt} {x y : Int} {U : List Cll} (hU : Usd L x y U) : U.length ≤ L.length := by
  have := sub_len (A := U) (B := L.map scl) hU.1 (fun c hc => by
    obtain ⟨h4, _⟩ := (hU.2 c).1 hc
    obtain ⟨y, hy⟩ := List.exists_mem_of_ne_nil _ h4
    obtain ⟨s, hs, _, e⟩ := mem_crd.1 hy
    exact List.mem_map.2 ⟨s, hs, e⟩)
  simpa using this
theorem Got.whole {L : List Spt} (h : GAll L 80) {R : List Nat} (hR : Got L (-32) (-32) 31 32 (-32) R) : R.length = L.length := by
  have := len_same (A := R) (B := L.map (·.1)) hR.1 (ids_nodup h.ok.1) (fun id => by
    rw [hR.2, List.mem_map]
    constructor
    · rintro ⟨c, hc, _⟩
      obtain ⟨s, hs, e, _⟩ := (hom_some h.ok.1).1 hc
      exact ⟨s, hs, e⟩
    · rintro ⟨s, hs, rfl⟩
      have h1 := (hom_some h.ok.1).2 ⟨s, hs, rfl, rfl⟩
      have := h.inn.cell h.ok.1 h1
      exact ⟨_, h1, by omega⟩)
  simpa using this
end Go.Proofs.YthokgjkgfolojaaDoor
