/-
  Lists of entities that can be read: how many there are, whether they are alike.
-/
import Derived.Test.YtcmofbhfdagpcaaGreatDoorEnbg
import Derived.Test.YtcmofbhfdagpcaaGreatDoorDtag
namespace Go.Proofs.YtcmofbhfdagpcaaGreatDoor
open Go.RowKit
set_option linter.unusedVariables false
set_option maxRecDepth 100000

/-- a list of entities that can be read -/
def EntsAt (w : World) (ao : Option Addr) (L : List EnE) : Prop := (L = [] ∨ ∃ g o, ao = some ⟨g, o, none⟩ ∧ ∀ (j : Nat) x, L[j]? = some x → w.cell? ⟨g, o + j * 2, none⟩ = some (.int .u32 (x.id : Int)) ∧ w.cell? ⟨g, o + j * 2 + 1, none⟩ = some (.slice x.ao x.C.length x.cap)) ∧ ∀ x ∈ L, Cs w x.ao x.C
theorem EntsAt.quiet {w w' : World} {ao : Option Addr} {L : List EnE} (h : EntsAt w ao L) (hf : Fr Nobody w w') : EntsAt w' ao L := by
  refine ⟨?_, fun x hx => (h.2 x hx).quiet hf⟩
  rcases h.1 with h | ⟨g, o, ha, hc⟩
  · exact .inl h
  · refine .inr ⟨g, o, ha, fun j x hx => ?_⟩
    obtain ⟨h0, h1⟩ := hc j x hx
    have hb := World.block_lt_of_cell? w _ h0
    exact ⟨(hf.cell (p := ⟨g, o + j * 2, none⟩) hb id).trans h0, (hf.cell (p := ⟨g, o + j * 2 + 1, none⟩) hb id).trans h1⟩
theorem EntsAt.at {w : World} {ao : Option Addr} {L : List EnE} (h : EntsAt w ao L) {j : Nat} {x : EnE} (hx : L[j]? = some x) : ∃ g o, ao = some ⟨g, o, none⟩ ∧ w.cell? ⟨g, o + j * 2, none⟩ = some (.int .u32 (x.id : Int)) ∧ w.cell? ⟨g, o + j * 2 + 1, none⟩ = some (.slice x.ao x.C.length x.cap) ∧ Cs w x.ao x.C := by
  rcases h.1 with h0 | ⟨g, o, ha, hc⟩
  · subst h0; simp at hx
  · exact ⟨g, o, ha, (hc j x hx).1, (hc j x hx).2, h.2 x (List.mem_of_getElem? hx)⟩
theorem Own.entsAt {w0 w : World} {l : List Thing} {ao : Option Addr} {cap : Nat} {L : List EnE} (h : Own w0 w (EntsT ao cap L :: l)) : EntsAt w ao L := by
  refine ⟨?_, fun x hx => ?_⟩
  · rcases Nat.eq_zero_or_pos L.length with h0 | h0
    · exact .inl (List.eq_nil_of_length_eq_zero h0)
    · obtain ⟨x0, hx0⟩ : ∃ x, L[0]? = some x := ⟨_, List.getElem?_eq_getElem h0⟩
      obtain ⟨⟨g, hg, _, _⟩, _⟩ := h.entAt hx0
      refine .inr ⟨g, 0, hg, fun j x hx => ?_⟩
      obtain ⟨⟨g', hg', h1, h2⟩, _⟩ := h.entAt hx
      rw [hg] at hg'
      cases hg'
      rw [Nat.zero_add]
      exact ⟨h1, h2⟩
  · obtain ⟨j, hj⟩ := List.getElem?_of_mem hx
    exact (h.entAt hj).2
/-- what they are -/
def evs (L : List EnE) : List En := L.map (fun x => (x.id, x.C))
theorem evs_len (L : List EnE) : (evs L).length = L.length := by simp [evs]
theorem evs_at {L : List EnE} {j : Nat} {x : EnE} (h : L[j]? = some x) : (evs L)[j]? = some (x.id, x.C) := by simp [evs, h]
/-- numbers and kinds within their types -/
def EIn (L : List EnE) : Prop := ∀ x ∈ L, x.id < 4294967296 ∧ ∀ q ∈ x.C, q.k < 256
/-- how many components -/
def csz : List EnE → Nat
  | [] => 0
  | x :: t => x.C.length + csz t
theorem csz_append (A B : List EnE) : csz (A ++ B) = csz A + csz B := by
  induction A with
  | nil => simp [csz]
  | cons x t ih => simp only [List.cons_append, csz, ih]; omega
theorem csz_take {L : List EnE} {j : Nat} {x : EnE} (h : L[j]? = some x) : csz (L.take (j + 1)) = csz (L.take j) + x.C.length := by
  rw [List.take_add_one, h, csz_append]; simp [csz]
theorem csz_take_le (L : List EnE) (j : Nat) : csz (L.take j) ≤ csz L := by
  have h := csz_append (L.take j) (L.drop j)
  rw [List.take_append_drop] at h
  omega
theorem csz_mem {L : List EnE} {x : EnE} (h : x ∈ L) : x.C.length ≤ csz L := by
  obtain ⟨j, hj⟩ := List.getElem?_of_mem h
  have h1 := csz_take hj
  have h2 := csz_take_le L (j + 1)
  omega
def esz (L : List EnE) : Nat := L.length + csz L

end Go.Proofs.YtcmofbhfdagpcaaGreatDoor

