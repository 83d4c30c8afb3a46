/-
  Plain facts on the groups of Var: what stands next in a list of bits.
-/
import Derived.Test.YtllhipfielgnbaaDoorNc
namespace Go.Proofs.YtllhipfielgnbaaDoor

/-- the first group of a list of bits -/
def g5 (M : List Bool) : Nat := num (M.take 5)
theorem g5_lt (M : List Bool) : g5 M < 32 := by
  have h := num_lt (M.take 5)
  have h2 : (M.take 5).length ≤ 5 := List.length_take_le _ _
  exact Nat.lt_of_lt_of_le h (Nat.pow_le_pow_right (by decide) h2)

/-- the number of which Var stands next: the error, the number, how many bits it has; i groups are read, v is their number -/
def gvAux : Nat → Nat → Nat → List Bool → Int × Nat × Nat
  | 0, _, _, _ => (4, 0, 0)
  | n + 1, i, v, M =>
    if M.length < 5 then (2, 0, 0)
    else if 16 ≤ g5 M then gvAux n (i + 1) (v + g5 M % 16 * 2 ^ (4 * i)) (M.drop 5)
    else if grp (v + g5 M % 16 * 2 ^ (4 * i)) ≠ i + 1 then (4, 0, 0)
    else (0, v + g5 M % 16 * 2 ^ (4 * i), 5 * (i + 1))
def gv (M : List Bool) : Int × Nat × Nat := gvAux 16 0 0 M

theorem vstep_lt (v g i : Nat) (hv : v < 2 ^ (4 * i)) : v + g % 16 * 2 ^ (4 * i) < 2 ^ (4 * (i + 1)) := by
  have h : g % 16 < 16 := Nat.mod_lt _ (by decide)
  have e : 2 ^ (4 * (i + 1)) = 16 * 2 ^ (4 * i) := by rw [show 4 * (i + 1) = 4 * i + 4 from by omega, Nat.pow_add]; omega
  rw [e]
  have h2 : g % 16 * 2 ^ (4 * i) ≤ 15 * 2 ^ (4 * i) := Nat.mul_le_mul_right _ (by omega)
  omega
theorem gvAux_ok (n i v : Nat) (M : List Bool) (hi : n + i = 16) (hv : v < 2 ^ (4 * i)) : (gvAux n i v M).2.1 < 18446744073709551616 ∧ (gvAux n i v M).2.2 ≤ M.length + 5 * i ∧ ((gvAux n i v M).1 ≠ 0 → (gvAux n i v M).2 = (0, 0)) := by
  induction n generalizing i v M with
  | zero => rw [gvAux]; exact ⟨by decide, Nat.zero_le _, fun _ => rfl⟩
  | succ n ih =>
    rw [gvAux]
    by_cases c1 : M.length < 5
    · rw [if_pos c1]; exact ⟨by decide, Nat.zero_le _, fun _ => rfl⟩
    · rw [if_neg c1]
      by_cases c2 : 16 ≤ g5 M
      · rw [if_pos c2]
        obtain ⟨a, b, c⟩ := ih (i + 1) (v + g5 M % 16 * 2 ^ (4 * i)) (M.drop 5) (by omega) (vstep_lt v _ i hv)
        rw [List.length_drop] at b
        exact ⟨a, by omega, c⟩
      · rw [if_neg c2]
        by_cases c3 : grp (v + g5 M % 16 * 2 ^ (4 * i)) ≠ i + 1
        · rw [if_pos c3]; exact ⟨by decide, Nat.zero_le _, fun _ => rfl⟩
        · rw [if_neg c3]
          have h := vstep_lt v (g5 M) i hv
          have h2 : 2 ^ (4 * (i + 1)) ≤ 2 ^ 64 := Nat.pow_le_pow_right (by decide) (by omega)
          exact ⟨Nat.lt_of_lt_of_le h h2, by show 5 * (i + 1) ≤ _; omega, fun h => absurd rfl h⟩
theorem gv_ok (M : List Bool) : (gv M).2.1 < 18446744073709551616 ∧ (gv M).2.2 ≤ M.length ∧ ((gv M).1 ≠ 0 → (gv M).2 = (0, 0)) := by
  have h := gvAux_ok 16 0 0 M rfl (by decide)
  simpa [gv] using h

end Go.Proofs.YtllhipfielgnbaaDoor
