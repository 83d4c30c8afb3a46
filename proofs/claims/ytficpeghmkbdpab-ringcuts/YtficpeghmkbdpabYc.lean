/-
  Slices of integers that come in; a cut ring as a plain list.
-/
import Derived.Test.YtficpeghmkbdpabYtc
import Derived.Laws.BitsAllLaws
namespace Go.Proofs.Ytficpeghmkbdpab
open Go.RowKit
set_option linter.unusedVariables false

/-- WHAT A WALK IS TOLD OF A SLICE OF INTEGERS THAT CAME IN (as the guide's shell has it). -/
def IsRow (k : IntKind) (w : World) (a : Option Addr) (len cap : Nat) (zs : List Int) : Prop :=
  (a = none ∧ len = 0 ∧ cap = 0 ∧ zs = []) ∨
  ∃ x, a = some x ∧ len ≤ cap ∧ cap ≤ maxLen ∧ zs.length = cap ∧ (∀ i, i < zs.length → w.cell? (x.add i) = some (.int k (zs.getD i 0))) ∧ ∀ n ∈ zs, (Lit.int k n).wf = true
/-- The numbers P of a slice of integers of kind k: nothing is asked of its address where there are none. -/
def Ints (k : IntKind) (w : World) (ao : Option Addr) (P : List Int) : Prop :=
  P = [] ∨ ∃ g o, ao = some ⟨g, o, none⟩ ∧ ∀ j x, P[j]? = some x → w.cell? ⟨g, o + j, none⟩ = some (.int k x)
theorem Ints.quiet {k : IntKind} {w w' : World} {ao : Option Addr} {P : List Int} (h : Ints k w ao P) (hf : Fr Nobody w w') : Ints k w' ao P := by
  rcases h with h | ⟨g, o, ha, hc⟩
  · exact .inl h
  · refine .inr ⟨g, o, ha, fun j x hx => ?_⟩
    have h1 := hc j x hx
    exact (hf.cell (p := ⟨g, o + j, none⟩) (World.block_lt_of_cell? w _ h1) id).trans h1
theorem IsRow.ints {k : IntKind} {w : World} {a : Option Addr} {len cap : Nat} {zs : List Int} (h : IsRow k w a len cap zs) : (zs.take len).length = len ∧ len ≤ maxLen ∧ Ints k w a (zs.take len) ∧ ∀ n ∈ zs.take len, (Lit.int k n).wf = true := by
  rcases h with ⟨rfl, rfl, rfl, rfl⟩ | ⟨x, rfl, hl, hm, hz, hc, hw⟩
  · exact ⟨rfl, Nat.zero_le _, .inl rfl, fun n hn => by simp at hn⟩
  · refine ⟨by rw [List.length_take]; omega, by omega, ?_, fun n hn => hw n (List.mem_of_mem_take hn)⟩
    by_cases h0 : len = 0
    · subst h0; left; simp
    · right
      obtain ⟨g, o, spot⟩ := x
      have h1 := hc 0 (by omega)
      have hs : spot = none := by simpa [Addr.add] using World.cell?_spot h1
      subst hs
      refine ⟨g, o, rfl, fun j y hy => ?_⟩
      rw [List.getElem?_take] at hy
      split at hy
      · rename_i hj
        have h2 := hc j (by omega)
        rw [addr_add] at h2
        rw [h2]
        rw [List.getD_eq_getElem?_getD, hy]; rfl
      · cases hy
section
variable {α : Type}
theorem rg_mem {L : List (Nat × α)} (h : L.Pairwise (fun a b => a.1 < b.1)) (e : Nat × α) (he : e ∈ L) : rget L e.1 = some e.2 := by
  obtain ⟨i, hi⟩ := List.getElem?_of_mem he
  have hil := (List.getElem?_eq_some_iff.1 hi).1
  have hb : below e.1 L = i := by
    rcases Nat.lt_trichotomy (below e.1 L) i with c | c | c
    · obtain ⟨x, hx⟩ : ∃ x, L[below e.1 L]? = some x := ⟨_, List.getElem?_eq_getElem (by omega)⟩
      have h1 := below_at e.1 L x hx
      have h2 := List.pairwise_iff_getElem.1 h _ i (List.getElem?_eq_some_iff.1 hx).1 hil c
      rw [(List.getElem?_eq_some_iff.1 hx).2, (List.getElem?_eq_some_iff.1 hi).2] at h2; omega
    · exact c
    · have := below_lt e.1 L i e c hi; omega
  unfold rget
  rw [hb, hi]
  exact if_pos rfl
theorem rg_none {L : List (Nat × α)} (t : Nat) (h : ∀ e ∈ L, e.1 ≠ t) : rget L t = none := by
  unfold rget
  cases hx : L[below t L]? with
  | none => rfl
  | some e => exact if_neg (h e (List.mem_of_getElem? hx))
theorem below_ge {L : List (Nat × α)} (h : L.Pairwise (fun a b => a.1 < b.1)) (t i : Nat) (e : Nat × α) (he : L[i]? = some e) (hi : below t L ≤ i) : t ≤ e.1 := by
  have hil := (List.getElem?_eq_some_iff.1 he).1
  obtain ⟨x, hx⟩ : ∃ x, L[below t L]? = some x := ⟨_, List.getElem?_eq_getElem (by omega)⟩
  have h1 := below_at t L x hx
  by_cases c : below t L = i
  · rw [c, he] at hx; cases hx; exact h1
  · have h2 := List.pairwise_iff_getElem.1 h (below t L) i (List.getElem?_eq_some_iff.1 hx).1 hil (by omega)
    rw [(List.getElem?_eq_some_iff.1 hx).2, (List.getElem?_eq_some_iff.1 he).2] at h2; omega
theorem below_again {L : List (Nat × α)} (h : L.Pairwise (fun a b => a.1 < b.1)) (t : Nat) : below t (L.drop (below t L)) = 0 := by
  rcases Nat.eq_zero_or_pos (below t (L.drop (below t L))) with c | c
  · exact c
  · have hl := below_le t (L.drop (below t L))
    obtain ⟨x, hx⟩ : ∃ x, (L.drop (below t L))[0]? = some x := ⟨_, List.getElem?_eq_getElem (by omega)⟩
    have h1 := below_lt t _ 0 x c hx
    rw [List.getElem?_drop] at hx
    have h2 := below_at t L x (by simpa using hx)
    omega
end
/-- what of L is asked for: its i-th thing, behind the cut at t -/
theorem cut_get {L : List (Nat × Nat)} {k : Nat} (h : ROk k L) (t i : Nat) (e : Nat × Nat) (he : L[i]? = some e) :
    rget (L.drop (below t L)) e.1 = if t ≤ e.1 then some e.2 else none := by
  by_cases c : t ≤ e.1
  · rw [if_pos c]
    have hi : below t L ≤ i := by
      rcases Nat.lt_or_ge i (below t L) with q | q
      · have := below_lt t L i e q he; omega
      · exact q
    refine rg_mem (h.drop _).inc e ?_
    apply List.mem_of_getElem? (i := i - below t L)
    rw [List.getElem?_drop, show below t L + (i - below t L) = i by omega]; exact he
  · rw [if_neg c]
    apply rg_none
    intro x hx hc
    obtain ⟨j, hj⟩ := List.getElem?_of_mem hx
    rw [List.getElem?_drop] at hj
    have := below_ge h.inc t _ x hj (by omega)
    omega
end Go.Proofs.Ytficpeghmkbdpab
