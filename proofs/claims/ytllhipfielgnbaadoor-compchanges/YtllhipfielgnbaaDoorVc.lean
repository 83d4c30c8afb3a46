/-
  The document's side of layer 2: GetVar is gv.
-/
import Derived.Test.YtllhipfielgnbaaDoorVb
import Derived.Test.YtllhipfielgnbaaDoorRf
namespace Go.Proofs.YtllhipfielgnbaaDoor
open Go.RowKit
set_option linter.unusedVariables false
set_option maxRecDepth 100000

/-- the number of the first k groups -/
def vTo (L : List Bool) : Nat → Nat
  | 0 => 0
  | k + 1 => vTo L k + g5 (L.drop (5 * k)) % 16 * 2 ^ (4 * k)
theorem vTo_lt (L : List Bool) (k : Nat) : vTo L k < 2 ^ (4 * k) := by
  induction k with
  | zero => simp [vTo]
  | succ k ih => rw [vTo]; exact vstep_lt _ _ _ ih
theorem vTo_split (L : List Bool) (j m : Nat) : ∃ q, vTo L (j + m) = vTo L j + 2 ^ (4 * j) * q := by
  induction m with
  | zero => exact ⟨0, by simp⟩
  | succ m ih =>
    obtain ⟨q, hq⟩ := ih
    refine ⟨q + g5 (L.drop (5 * (j + m))) % 16 * 2 ^ (4 * m), ?_⟩
    rw [← Nat.add_assoc, vTo, hq, Nat.mul_add, Nat.add_assoc]
    congr 2
    rw [show 4 * (j + m) = 4 * j + 4 * m from by omega, Nat.pow_add, Nat.mul_left_comm, Nat.mul_add]
theorem vTo_nib (L : List Bool) (n j : Nat) (h : j < n) : vTo L n / 2 ^ (4 * j) % 16 = g5 (L.drop (5 * j)) % 16 := by
  obtain ⟨m, rfl⟩ : ∃ m, n = (j + 1) + m := ⟨n - (j + 1), by omega⟩
  obtain ⟨q, hq⟩ := vTo_split L (j + 1) m
  have hp := Nat.two_pow_pos (4 * j)
  have e : 2 ^ (4 * (j + 1)) = 2 ^ (4 * j) * 16 := by rw [show 4 * (j + 1) = 4 * j + 4 from by omega, Nat.pow_add]
  have hs : vTo L (j + 1 + m) = vTo L j + 2 ^ (4 * j) * (g5 (L.drop (5 * j)) % 16 + 16 * q) := by
    rw [hq, vTo, e, Nat.mul_add, Nat.mul_comm (g5 (L.drop (5 * j)) % 16), ← Nat.mul_assoc, Nat.add_assoc]
  rw [hs, Nat.add_mul_div_left _ _ hp, Nat.div_eq_of_lt (vTo_lt L j), Nat.zero_add]
  omega
theorem vTo_step (L : List Bool) (n j : Nat) (h : j < n) : vTo L n / 2 ^ (4 * j) = 16 * (vTo L n / 2 ^ (4 * (j + 1))) + g5 (L.drop (5 * j)) % 16 := by
  rw [← vTo_nib L n j h]
  have e : vTo L n / 2 ^ (4 * (j + 1)) = vTo L n / 2 ^ (4 * j) / 16 := by rw [Nat.div_div_eq_div_mul, show 4 * (j + 1) = 4 * j + 4 from by omega, Nat.pow_add]
  rw [e]; omega
theorem num_take_mod (l : List Bool) (m n : Nat) (h : m ≤ n) : num (l.take m) = num (l.take n) % 2 ^ m := by
  induction l generalizing m n with
  | nil => simp [num]
  | cons b l ih =>
    cases m with
    | zero => simp [num, Nat.mod_one]
    | succ m =>
      obtain ⟨n', rfl⟩ : ∃ n', n = n' + 1 := ⟨n - 1, by omega⟩
      rw [List.take_succ_cons, List.take_succ_cons, num, num, ih m n' (by omega), Nat.pow_succ', Nat.mod_mul]
      have h1 : (b.toNat + 2 * num (l.take n')) / 2 = num (l.take n') := by cases b <;> simp <;> omega
      have h2 : (b.toNat + 2 * num (l.take n')) % 2 = b.toNat := by cases b <;> simp <;> omega
      rw [h1, h2]
theorem g5_low (M : List Bool) : num (M.take 4) = g5 M % 16 := by
  unfold g5; exact num_take_mod M 4 5 (by decide)
theorem g5_top (M : List Bool) (b : Bool) (h : M[4]? = some b) : 16 ≤ g5 M ↔ b = true := by
  unfold g5
  have hl : 4 < M.length := by
    rcases Nat.lt_or_ge 4 M.length with hh | hh
    · exact hh
    · rw [List.getElem?_eq_none hh] at h; cases h
  rw [show (5 : Nat) = 4 + 1 from rfl, List.take_add_one, h, num_append, List.length_take, Nat.min_eq_left (by omega)]
  have := num_lt (M.take 4)
  rw [List.length_take, Nat.min_eq_left (by omega)] at this
  cases b
  · simp [num]; omega
  · simp [num]

end Go.Proofs.YtllhipfielgnbaaDoor
