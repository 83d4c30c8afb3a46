/-
  Sorting IDs: the two partitions.
-/
import Derived.Test.YthokgjkgfolojabDoorSob
namespace Go.Proofs.YthokgjkgfolojabDoor
open Go.RowKit Go.Sort
set_option linter.unusedVariables false
set_option maxRecDepth 100000

section
variable {α : Type} [Inhabited α] (p : α → Bool) (d : Array α)
theorem up_go (j i : Nat) (h : i ≤ j) (hp : p d[i]! = true) : scanUp p d j i = scanUp p d j (i + 1) := by
  conv => lhs; rw [scanUp]
  simp [h, hp]
theorem up_end1 (j i : Nat) (h : j < i) : scanUp p d j i = i := by
  rw [scanUp]; simp [show ¬ i ≤ j by omega]
theorem up_end2 (j i : Nat) (hp : p d[i]! = false) : scanUp p d j i = i := by
  rw [scanUp]; simp [hp]
theorem dn_go (i j k : Nat) (hk : j = k + 1) (h : i ≤ j) (hp : p d[j]! = true) : scanDown p d i j = scanDown p d i k := by
  subst hk
  conv => lhs; rw [scanDown]
  simp [h, hp]
theorem dn_end1 (i j : Nat) (h : j < i) : scanDown p d i j = j := by
  cases j with
  | zero => rw [scanDown]
  | succ k => rw [scanDown]; simp [show ¬ i ≤ k + 1 by omega]
theorem dn_end2 (i j : Nat) (hp : p d[j]! = false) : scanDown p d i j = j := by
  cases j with
  | zero => rw [scanDown]
  | succ k => rw [scanDown]; simp [hp]
end
theorem loop_end (a i0 j0 i j : Nat) (d : Array Int) (h1 : scanUp (fun x => ltInt x d[a]!) d j0 i0 = i) (h2 : scanDown (fun x => !ltInt x d[a]!) d i j0 = j) (h : j < i) : partLoop ltInt a i0 j0 d = (j, d) := by
  rw [partLoop_eq, h1, h2, if_pos h]
theorem loop_go (a i0 j0 i j : Nat) (d : Array Int) (h1 : scanUp (fun x => ltInt x d[a]!) d j0 i0 = i) (h2 : scanDown (fun x => !ltInt x d[a]!) d i j0 = j) (h : ¬ j < i) : partLoop ltInt a i0 j0 d = partLoop ltInt a (i + 1) (j - 1) (swp d i j) := by
  conv => lhs; rw [partLoop_eq, h1, h2, if_neg h]
theorem eloop_end (a i0 j0 i j : Nat) (d : Array Int) (h1 : scanUp (fun x => !ltInt d[a]! x) d j0 i0 = i) (h2 : scanDown (fun x => ltInt d[a]! x) d i j0 = j) (h : j < i) : partEqLoop ltInt a i0 j0 d = (i, d) := by
  rw [partEqLoop_eq, h1, h2, if_pos h]
theorem eloop_go (a i0 j0 i j : Nat) (d : Array Int) (h1 : scanUp (fun x => !ltInt d[a]! x) d j0 i0 = i) (h2 : scanDown (fun x => ltInt d[a]! x) d i j0 = j) (h : ¬ j < i) : partEqLoop ltInt a i0 j0 d = partEqLoop ltInt a (i + 1) (j - 1) (swp d i j) := by
  conv => lhs; rw [partEqLoop_eq, h1, h2, if_neg h]
theorem part_done {a b b1 pv : Nat} {d D dk : Array Int} {j : Nat} (hD : D = swp d a pv) (hb : b = b1 + 1) (h : partLoop ltInt a (a + 1) b1 D = (j, dk)) : (j : Int) = ((partition ltInt d a b pv).1 : Int) ∧ swp dk j a = (partition ltInt d a b pv).2.2 := by
  subst hb
  rw [partition_fst, partition_arr, ← hD, Nat.add_sub_cancel, h]
  exact ⟨rfl, rfl⟩
end Go.Proofs.YthokgjkgfolojabDoor
