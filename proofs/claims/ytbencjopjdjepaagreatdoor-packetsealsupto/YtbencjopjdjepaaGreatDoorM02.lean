/-
  What a writer and a reader are in memory, and what a call leaves as it was: predicates on worlds, and how they are kept.
-/
import Derived.Test.YtbencjopjdjepaaGreatDoorM01
import Derived.Test.YtbencjopjdjepaaGreatDoorRows
import Derived.WalkKit
import Derived.WalkSpells
import Derived.WalkLawsBesides
import Derived.BigRegion
import Derived.BigQuiet
import Derived.Deep.QuietTactic
namespace Go.Proofs.YtbencjopjdjepaaGreatDoor
open Go.RowKit

theorem Tryz.infoB : (Tryz.prog.info? 5).map (fun i => (i.zero, i.size, i.bytes)) = some (some (.int .u8 0), 1, 1) := by kernel_rfl
theorem Tryz.infoBool : (Tryz.prog.info? 4).map (fun i => (i.zero, i.size, i.bytes)) = some (some (.bool false), 1, 1) := by kernel_rfl

/-- the blocks of an object: its own, and its row's -/
def At (b : Nat) (g : Option Nat) (k : Nat) : Prop := k = b ∨ some k = g

theorem row_setCell {w : World} {base : Nat} {e : TypeId} {size n : Nat} {v : Value} {xs : List Value} (ho : w.ownsRow base e size v n xs) (p : Addr) (u : Value) (h : v.ownBlock ≠ some p.block) : (w.setCell p u).ownsRow base e size v n xs := by
  have hf : Fr (fun k => k = p.block) w (w.setCell p u) := Fr.setCell (S := fun k => k = p.block) (Fr.refl _ w) (.inl rfl) u
  exact hf.row ho (fun k hk e => h (by rw [hk, e]))

/-- A WRITER at block b that holds the bits L; g: the block of its bytes. -/
structure Wr (B : Nat) (w : World) (b : Nat) (g : Option Nat) (L : List Bool) : Prop where
  low : B ≤ b
  glow : ∀ k, g = some k → B ≤ k
  ne : g ≠ some b
  obj : ∃ v, w.heap[b]? = some (.cells #[v, .int .i64 (L.length : Int)] 172 (0, 0)) ∧ w.ownsRow 0 5 1 v (nb L.length) (vrow (pack L)) ∧ v.ownBlock = g

theorem Wr.lt {B : Nat} {w : World} {b : Nat} {g : Option Nat} {L : List Bool} (h : Wr B w b g L) : b < w.heap.size := by
  obtain ⟨v, hb, _⟩ := h.obj
  exact (Array.getElem?_eq_some_iff.1 hb).1
theorem Wr.glt {B : Nat} {w : World} {b : Nat} {g : Option Nat} {L : List Bool} (h : Wr B w b g L) : ∀ k, g = some k → k < w.heap.size := by
  intro k hk
  obtain ⟨v, _, ho, hv⟩ := h.obj
  exact (ho.lt k (hv.trans hk)).2
theorem Wr.keep {S : Nat → Prop} {B : Nat} {w w' : World} {b : Nat} {g : Option Nat} {L : List Bool} (h : Wr B w b g L) (hf : Fr S w w') (hb : ¬ S b) (hg : ∀ k, g = some k → ¬ S k) : Wr B w' b g L := by
  refine ⟨h.low, h.glow, h.ne, ?_⟩
  have hl := h.lt
  obtain ⟨v, h1, h2, h3⟩ := h.obj
  exact ⟨v, (hf.block b hl hb).trans h1, hf.row h2 (fun k hk => hg k (h3.symm.trans hk)), h3⟩
theorem Wr.mono {B B' : Nat} {w : World} {b : Nat} {g : Option Nat} {L : List Bool} (h : Wr B w b g L) (hB : B' ≤ B) : Wr B' w b g L :=
  ⟨Nat.le_trans hB h.low, fun k hk => Nat.le_trans hB (h.glow k hk), h.ne, h.obj⟩

/-- What a call on the object at b does: only its own two blocks are touched; its row is the old one, or new. -/
structure Step (w : World) (b : Nat) (g : Option Nat) (w' : World) (g' : Option Nat) : Prop where
  fr : Fr (At b g) w w'
  row : g' = g ∨ ∃ k, g' = some k ∧ w.heap.size ≤ k
theorem Step.refl (w : World) (b : Nat) (g : Option Nat) : Step w b g w g := ⟨Fr.refl _ _, .inl rfl⟩
theorem Step.trans {w w1 w2 : World} {b : Nat} {g g1 g2 : Option Nat} (h : Step w b g w1 g1) (k : Step w1 b g1 w2 g2) : Step w b g w2 g2 := by
  refine ⟨⟨k.fr.os.trans h.fr.os, k.fr.tape.trans h.fr.tape, k.fr.output.trans h.fr.output, Nat.le_trans h.fr.size k.fr.size, fun i hi hs => ?_⟩, ?_⟩
  · refine (k.fr.block i (Nat.lt_of_lt_of_le hi h.fr.size) ?_).trans (h.fr.block i hi hs)
    rintro (e | e)
    · exact hs (.inl e)
    · rcases h.row with r | ⟨j, r, hj⟩
      · exact hs (.inr (e.trans r))
      · rw [r] at e; cases e; omega
  · rcases k.row with r | ⟨j, r, hj⟩
    · rw [r]; exact h.row
    · exact .inr ⟨j, r, Nat.le_trans h.fr.size hj⟩
end Go.Proofs.YtbencjopjdjepaaGreatDoor


/-
  The walks of New, Len and add of package bits.
-/
namespace Go.Proofs.YtbencjopjdjepaaGreatDoor
open Go.RowKit

set_option maxHeartbeats 400000 in
theorem new_any (B : Nat) (w : World) (hB : B ≤ w.heap.size) :
    Calls Tryz.prog 41 #[] w fun e w' => ∃ b, e = .returned (.pointer (some ⟨b, 0, none⟩)) ∧ w.heap.size ≤ b ∧ Wr B w' b none [] ∧ Fr Nobody w w' := by
  go_enter Tryz.func41, Tryz.ntmps41
  go_wp2
  go_ret
  refine ⟨_, rfl, Nat.le_refl _, ⟨hB, fun k hk => by simp at hk, by simp, ?_⟩, (Fr.refl _ _).alloc _⟩
  exact ⟨.slice none 0 0, heap_alloc_new w _, World.ownsRow_nil _ _ _ _, rfl⟩

theorem cell0 {w : World} {b : Nat} {v u : Value} {t : TypeId} (h : w.heap[b]? = some (.cells #[v, u] t (0, 0))) : w.cell? ⟨b, 0, none⟩ = some v := by simp [World.cell?, h]
theorem cell1 {w : World} {b : Nat} {v u : Value} {t : TypeId} (h : w.heap[b]? = some (.cells #[v, u] t (0, 0))) : w.cell? ⟨b, 1, none⟩ = some u := by simp [World.cell?, h]
theorem froz {w : World} {b o : Nat} {v u : Value} {t : TypeId} (h : w.heap[b]? = some (.cells #[v, u] t (0, 0))) : w.frozen? ⟨b, o, none⟩ = false := by simp [World.frozen?, h]

set_option maxHeartbeats 400000 in
theorem len_any (B : Nat) (w : World) (b : Nat) (g : Option Nat) (L : List Bool) (h : Wr B w b g L) :
    Calls Tryz.prog 168 #[.pointer (some ⟨b, 0, none⟩)] w fun e w' => e = .returned (.int .i64 (L.length : Int)) ∧ w' = w := by
  obtain ⟨v, hb, _⟩ := h.obj
  have c1 := cell1 hb
  clear hb h
  go_enter Tryz.func168, Tryz.ntmps168
  go_wp2
  go_ret
  exact ⟨rfl, rfl⟩
end Go.Proofs.YtbencjopjdjepaaGreatDoor


/-
  A law on append for a slice of the call's own: the new value's row is the old one's, or a new block.
-/
namespace Go.Proofs.YtbencjopjdjepaaGreatDoor
open Go.RowKit
set_option linter.unusedVariables false

theorem one_vrow (l : List Nat) : ∀ u ∈ vrow l, u.oneCell' = true := by intro u hu; rw [vrow, List.mem_map] at hu; obtain ⟨x, _, rfl⟩ := hu; rfl
end Go.Proofs.YtbencjopjdjepaaGreatDoor


