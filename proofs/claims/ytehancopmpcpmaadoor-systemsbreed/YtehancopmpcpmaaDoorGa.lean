/-
  The document's table, with entities of which it is known that they stay where they are.
-/
import Derived.Test.YtehancopmpcpmaaDoorDe
namespace Go.Proofs.YtehancopmpcpmaaDoor
open Go.RowKit Go.Maps
set_option linter.unusedVariables false
set_option maxRecDepth 100000

def RTG (G : List REnt) (v : Value) (L : List Ent) : Thing := Ex (fun E : List REnt => Fact (E.map REnt.e = L ∧ ∀ d ∈ G, d ∈ E) :: Row 41 2 v E.length (cat rcells E) :: E.map rrow)
def RTaG (G : List REnt) (b o : Nat) (cur : Array Value) (m : Nat) (L : List Ent) : Thing :=
  Ex (fun v : Value => [Fact (cur[o]? = some (.int .u8 (m : Int)) ∧ o + 1 < cur.size), Cells b (cur.setIfInBounds (o + 1) v) 101, RTG G v L])
section
variable {w0 w : World} {l : List Thing} {b o m : Nat} {cur : Array Value} {L : List Ent} {G : List REnt}
theorem RTG.open {v : Value} (h : Own w0 w (RTG G v L :: l)) : ∃ E, E.map REnt.e = L ∧ (∀ d ∈ G, d ∈ E) ∧ Own w0 w (Row 41 2 v E.length (cat rcells E) :: (E.map rrow ++ l)) := by
  obtain ⟨E, h⟩ := Own.ex_iff.1 h
  have h' : Own w0 w (Fact (E.map REnt.e = L ∧ ∀ d ∈ G, d ∈ E) :: Row 41 2 v E.length (cat rcells E) :: (E.map rrow ++ l)) := h
  exact ⟨E, (Own.fact.1 h').1.1, (Own.fact.1 h').1.2, (Own.fact.1 h').2⟩
theorem RTG.shut {v : Value} {E : List REnt} (hE : E.map REnt.e = L) (hG : ∀ d ∈ G, d ∈ E) (h : Own w0 w (Row 41 2 v E.length (cat rcells E) :: (E.map rrow ++ l))) : Own w0 w (RTG G v L :: l) :=
  Own.ex_iff.2 ⟨E, Own.fact.2 ⟨⟨hE, hG⟩, h⟩⟩
theorem RTaG.open (h : Own w0 w (RTaG G b o cur m L :: l)) : ∃ v E, E.map REnt.e = L ∧ (∀ d ∈ G, d ∈ E) ∧ Own w0 w (Cells b (cur.setIfInBounds (o + 1) v) 101 :: Row 41 2 v E.length (cat rcells E) :: (E.map rrow ++ l)) := by
  obtain ⟨v, h⟩ := Own.ex_iff.1 h
  have h' : Own w0 w (Fact (cur[o]? = some (.int .u8 (m : Int)) ∧ o + 1 < cur.size) :: Cells b (cur.setIfInBounds (o + 1) v) 101 :: RTG G v L :: l) := h
  obtain ⟨E, hE, hG, h2⟩ := RTG.open (Own.fact.1 h').2.two
  refine ⟨v, E, hE, hG, h2.perm ?_⟩
  exact (List.perm_middle (l₁ := Row 41 2 v E.length (cat rcells E) :: E.map rrow)).trans (List.Perm.refl _)
theorem RTaG.facts (h : Own w0 w (RTaG G b o cur m L :: l)) : cur[o]? = some (.int .u8 (m : Int)) ∧ o + 1 < cur.size := by
  obtain ⟨v, h⟩ := Own.ex_iff.1 h
  have h' : Own w0 w (Fact (cur[o]? = some (.int .u8 (m : Int)) ∧ o + 1 < cur.size) :: Cells b (cur.setIfInBounds (o + 1) v) 101 :: RTG G v L :: l) := h
  exact (Own.fact.1 h').1
theorem RTaG.shut {v : Value} {E : List REnt} (hE : E.map REnt.e = L) (hG : ∀ d ∈ G, d ∈ E) (hc : cur[o]? = some (.int .u8 (m : Int)) ∧ o + 1 < cur.size) (h : Own w0 w (Cells b (cur.setIfInBounds (o + 1) v) 101 :: Row 41 2 v E.length (cat rcells E) :: (E.map rrow ++ l))) : Own w0 w (RTaG G b o cur m L :: l) := by
  refine Own.ex_iff.2 ⟨v, Own.fact.2 ⟨hc, ?_⟩⟩
  have h2 : Own w0 w (RTG G v L :: Cells b (cur.setIfInBounds (o + 1) v) 101 :: l) := by
    refine RTG.shut hE hG (h.perm ?_)
    exact (List.perm_middle (l₁ := Row 41 2 v E.length (cat rcells E) :: E.map rrow)).symm
  exact h2.two
theorem RTaG.less (h : Own w0 w (RTaG G b o cur m L :: l)) : Own w0 w (RTab b o cur m L :: l) := by
  have hf := RTaG.facts h
  obtain ⟨v, E, hE, _, h2⟩ := RTaG.open h
  exact RTab.shut hE hf h2
end
theorem rtrowG (w0 w : World) (l : List Thing) (b o : Nat) (cur : Array Value) (m : Nat) (L : List Ent) {G : List REnt} (h : Own w0 w (RTaG G b o cur m L :: l)) (hA : Apart L) (hL : L.length ≤ 1000000) (id : Nat) :
    Calls Tryd.prog 91 #[.pointer (some ⟨b, o, none⟩), .int .u32 (id : Int)] w fun e w' => e = .returned (.int .i64 (pl1 (plc L id))) ∧ Fr Nobody w w' := rtrow w0 w l b o cur m L (RTaG.less h) hA hL id
theorem mem_set2 {α : Type} {L : List α} {r : Nat} {e x y : α} (he : L[r]? = some e) (hx : x ∈ L) (hne : x ≠ e) : x ∈ L.set r y := by
  obtain ⟨i, hi⟩ := List.mem_iff_getElem?.1 hx
  have hir : r ≠ i := by
    intro h
    subst h
    rw [he] at hi
    exact hne (Option.some.inj hi).symm
  exact List.mem_of_getElem? (i := i) (by rw [List.getElem?_set, if_neg hir]; exact hi)
theorem mem_outr3 {α : Type} {L : List α} {r : Nat} {e x : α} (he : L[r]? = some e) (hx : x ∈ L) (hne : x ≠ e) : x ∈ outr L r := by
  rcases List.mem_cons.1 ((outr_perm L r e he).mem_iff.1 hx) with h | h
  · exact (hne h).elim
  · exact h
end Go.Proofs.YtehancopmpcpmaaDoor
