/-
  Channels as things in memory; boxes.
-/
import Derived.Test.YtijhbgkfffnioaaXm
import Derived.Test.YtijhbgkfffnioaaChecked
import Derived.Conc.LoneCalls
import Derived.Conc.LoneSelect
import Derived.Conc.LoneSelectN
import Derived.KernelRfl
import Derived.Laws.Rows
namespace Go.Proofs.Ytijhbgkfffnioaa
open Go.RowKit Go.Conc
set_option linter.unusedVariables false

/-- a channel that is open: so many may wait, and these do -/
def Chan (c n : Nat) (buf : List Value) : Thing where
  is := fun w A => (∃ s r, w.heap[c]? = some (.chan n buf.toArray false s r false)) ∧ ∀ k, A k ↔ k = c
  lt := by
    rintro w A k ⟨⟨s, r, h⟩, hA⟩ a
    rw [(hA k).1 a]; exact (Array.getElem?_eq_some_iff.1 h).1
  keep := by
    rintro w w' A B ⟨⟨s, r, h⟩, hA⟩ hf hn
    exact ⟨⟨s, r, (hf.block c (Array.getElem?_eq_some_iff.1 h).1 (hn c ((hA c).2 rfl))).trans h⟩, hA⟩
theorem Own.chan {w0 w : World} {c n : Nat} {buf : List Value} {l : List Thing} (h : Own w0 w (Chan c n buf :: l)) : ∃ s r, w.heap[c]? = some (.chan n buf.toArray false s r false) := by
  obtain ⟨A, ⟨B, C, hB, _⟩, _⟩ := h
  exact hB.1
theorem Fr.setChan {S : Nat → Prop} {a w : World} (h : Fr S a w) {c : Nat} (hc : S c ∨ a.heap.size ≤ c) (n : Nat) (buf : Array Value) (cl : Bool) (s r : Nat) (tm : Bool) : Fr S a (w.setChan c n buf cl s r tm) :=
  ⟨h.os, h.tape, h.output, by have := h.size; simp [World.setChan]; omega, fun k hk hs => by
    rw [← h.block k hk hs]
    simp only [World.setChan]
    rw [Array.getElem?_setIfInBounds_ne (fun e => by subst e; rcases hc with hc | hc; exact hs hc; omega)]⟩
theorem Own.setChan {w0 w : World} {c n : Nat} {buf : List Value} {l : List Thing} (h : Own w0 w (Chan c n buf :: l)) (buf' : List Value) (s r : Nat) : Own w0 (w.setChan c n buf'.toArray false s r false) (Chan c n buf' :: l) := by
  obtain ⟨A, ⟨⟨s0, r0, hb⟩, hA⟩, hlo, k⟩ := h.act
  exact k _ (Chan c n buf') A ⟨⟨s, r, heap_setChan w c n _ false s r false (Array.getElem?_eq_some_iff.1 hb).1⟩, hA⟩ (Fr.setChan (Fr.refl _ _) (.inl ((hA c).2 rfl)) _ _ _ _ _ _) (fun _ a => .inl a)
theorem Own.allocChan {w0 w : World} {l : List Thing} (h : Own w0 w l) (n : Nat) : Own w0 (w.alloc (.chan n #[] false 0 0 false)) (Chan w.heap.size n [] :: l) :=
  h.new (Chan w.heap.size n []) (fun k => k = w.heap.size) ⟨⟨0, 0, heap_alloc_new w _⟩, fun _ => Iff.rfl⟩ ((Fr.refl _ _).alloc _) (fun k hk => by omega)

def lrow (L : List Int) : List Value := L.map (Value.int .i64)
/-- a box with room for n, in which these wait -/
def Bx (b n : Nat) (L : List Int) : Thing := Ex fun c : Nat => [Cells b #[.chan (some c)] 89, Chan c n (lrow L)]
theorem Own.bx {w0 w : World} {b n : Nat} {L : List Int} {l : List Thing} (h : Own w0 w (Bx b n L :: l)) : ∃ c s r, w.cell? ⟨b, 0, none⟩ = some (.chan (some c)) ∧ w.heap[c]? = some (.chan n (lrow L).toArray false s r false) ∧
    ∀ (L' : List Int) (s r : Nat), Own w0 (w.setChan c n (lrow L').toArray false s r false) (Bx b n L' :: l) := by
  obtain ⟨c, h⟩ := Own.ex_iff.1 h
  obtain ⟨s, r, hc⟩ := h.two.chan
  refine ⟨c, s, r, by have := h.cell 0; simpa using this, hc, fun L' s r => ?_⟩
  exact Own.ex_iff.2 ⟨c, (h.two.setChan (lrow L') s r).two⟩
end Go.Proofs.Ytijhbgkfffnioaa
