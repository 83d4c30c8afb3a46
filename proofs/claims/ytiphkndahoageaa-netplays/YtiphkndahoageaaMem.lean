/-
  What a writer and a reader are in memory, and what a call leaves as it was: predicates on worlds, and how they are kept.
-/
import Derived.Test.YtiphkndahoageaaXm
import Derived.Test.YtiphkndahoageaaRows
import Derived.Test.YtiphkndahoageaaPl
import Derived.WalkKit
import Derived.WalkSpells
import Derived.WalkLawsBesides
namespace Go.Proofs.Ytiphkndahoageaa
open Go.RowKit

theorem Try.infoB : (Try.prog.info? 5).map (fun i => (i.zero, i.size, i.bytes)) = some (some (.int .u8 0), 1, 1) := by kernel_rfl
theorem Try.infoBool : (Try.prog.info? 4).map (fun i => (i.zero, i.size, i.bytes)) = some (some (.bool false), 1, 1) := by kernel_rfl

/-- the blocks of an object: its own, and its row's -/
def At (b : Nat) (g : Option Nat) (k : Nat) : Prop := k = b ∨ some k = g

theorem row_setCell {w : World} {base : Nat} {e : TypeId} {size n : Nat} {v : Value} {xs : List Value} (ho : w.ownsRow base e size v n xs) (p : Addr) (u : Value) (h : v.ownBlock ≠ some p.block) : (w.setCell p u).ownsRow base e size v n xs := by
  have hf : Fr (fun k => k = p.block) w (w.setCell p u) := Fr.setCell (S := fun k => k = p.block) (Fr.refl _ w) (.inl rfl) u
  exact hf.row ho (fun k hk e => h (by rw [hk, e]))

/-- What a call on the object at b does: only its own two blocks are touched; its row is the old one, or new. -/
structure Step (w : World) (b : Nat) (g : Option Nat) (w' : World) (g' : Option Nat) : Prop where
  fr : Fr (At b g) w w'
  row : g' = g ∨ ∃ k, g' = some k ∧ w.heap.size ≤ k
theorem Step.refl (w : World) (b : Nat) (g : Option Nat) : Step w b g w g := ⟨Fr.refl _ _, .inl rfl⟩
theorem Step.trans {w w1 w2 : World} {b : Nat} {g g1 g2 : Option Nat} (h : Step w b g w1 g1) (k : Step w1 b g1 w2 g2) : Step w b g w2 g2 := by
  refine ⟨⟨k.fr.os.trans h.fr.os, k.fr.tape.trans h.fr.tape, k.fr.output.trans h.fr.output, Nat.le_trans h.fr.size k.fr.size, fun i hi hs => ?_⟩, ?_⟩
  · refine (k.fr.block i (Nat.lt_of_lt_of_le hi h.fr.size) ?_).trans (h.fr.block i hi hs)
    rintro (e | e)
    · exact hs (.inl e)
    · rcases h.row with r | ⟨j, r, hj⟩
      · exact hs (.inr (e.trans r))
      · rw [r] at e; cases e; omega
  · rcases k.row with r | ⟨j, r, hj⟩
    · rw [r]; exact h.row
    · exact .inr ⟨j, r, Nat.le_trans h.fr.size hj⟩
theorem Step.of_fr {w w' : World} {b : Nat} {g : Option Nat} (h : Fr Nobody w w') : Step w b g w' g := ⟨h.mono (fun _ _ k => k.elim), .inl rfl⟩

end Go.Proofs.Ytiphkndahoageaa

