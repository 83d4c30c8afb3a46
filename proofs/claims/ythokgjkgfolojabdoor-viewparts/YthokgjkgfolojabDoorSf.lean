/-
  Bits of package schema and of the document; the document's Field and Range where there is none.
-/
import Derived.Test.YthokgjkgfolojabDoorSe
import Derived.Test.YthokgjkgfolojabDoorRd
import Derived.Deep.RegionWith
namespace Go.Proofs.YthokgjkgfolojabDoor
open Go.RowKit
set_option linter.unusedVariables false

/-- the bits of the fields from the first on, so many -/
def wd (k j : Nat) : Nat := wid (lo k j) (hi k j)
def bsum (k : Nat) : Nat → Nat
  | 0 => 0
  | n + 1 => bsum k n + wd k n
def bitsK (k : Nat) : Nat := bsum k (cnt k)

theorem rng_ok (k j : Nat) (h : j < cnt k) : -524288 ≤ lo k j ∧ lo k j ≤ 1 ∧ 7 ≤ hi k j ∧ hi k j ≤ 524287 := by
  rcases pairs k j h with ⟨rfl, rfl | rfl⟩ | ⟨rfl, rfl | rfl⟩ | ⟨rfl, rfl⟩ | ⟨rfl, rfl | rfl | rfl⟩ | ⟨rfl, rfl | rfl | rfl⟩ | ⟨rfl, rfl | rfl | rfl⟩ <;> decide
theorem wd_le (k j : Nat) (h : j < cnt k) : 3 ≤ wd k j ∧ wd k j ≤ 20 := by
  rcases pairs k j h with ⟨rfl, rfl | rfl⟩ | ⟨rfl, rfl | rfl⟩ | ⟨rfl, rfl⟩ | ⟨rfl, rfl | rfl | rfl⟩ | ⟨rfl, rfl | rfl | rfl⟩ | ⟨rfl, rfl | rfl | rfl⟩ <;> decide +kernel
theorem bsum_le (k n : Nat) (h : n ≤ cnt k) : bsum k n ≤ 20 * n := by
  induction n with
  | zero => simp [bsum]
  | succ n ih =>
    have := ih (by omega)
    have := wd_le k n (by omega)
    simp only [bsum]; omega

end Go.Proofs.YthokgjkgfolojabDoor
