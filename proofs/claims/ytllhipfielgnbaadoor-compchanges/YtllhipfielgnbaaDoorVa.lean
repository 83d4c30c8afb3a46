/-
  The document's side of layer 2: Var.
-/
import Derived.Test.YtllhipfielgnbaaDoorRd
import Derived.Test.YtllhipfielgnbaaDoorNg
namespace Go.Proofs.YtllhipfielgnbaaDoor
open Go.RowKit
set_option linter.unusedVariables false
set_option maxRecDepth 100000

theorem bitLen_ge (x : Nat) (h0 : x ≠ 0) (h : x < 18446744073709551616) : 2 ^ (Lib.bitLen x - 1) ≤ x := by
  induction x using Nat.strongRecOn with
  | ind x ih =>
    rw [Lib.bitLen_half x h0 h]
    by_cases h1 : x / 2 = 0
    · rw [h1, bitLen0]; simp; omega
    · have h2 := ih (x / 2) (by omega) h1 (by omega)
      have h3 : Lib.bitLen (x / 2) ≠ 0 := by
        intro e
        have h4 := lt_bitLen' (x / 2) (by omega)
        rw [e] at h4; omega
      obtain ⟨m, hm⟩ : ∃ m, Lib.bitLen (x / 2) = m + 1 := ⟨Lib.bitLen (x / 2) - 1, by omega⟩
      rw [hm] at h2 ⊢
      rw [show 1 + (m + 1) - 1 = m + 1 from by omega, Nat.pow_succ]
      rw [show m + 1 - 1 = m from by omega] at h2
      omega
theorem grp_more (v i : Nat) (hv : v < 18446744073709551616) : i + 1 < grp v ↔ v / 2 ^ (4 * (i + 1)) ≠ 0 := by
  constructor
  · intro h
    have hb : 4 * (i + 1) < Lib.bitLen v := by unfold grp at h; omega
    have h0 : v ≠ 0 := by rintro rfl; rw [bitLen0] at hb; omega
    have h1 := bitLen_ge v h0 hv
    have h2 : 2 ^ (4 * (i + 1)) ≤ 2 ^ (Lib.bitLen v - 1) := Nat.pow_le_pow_right (by decide) (by omega)
    intro e
    rw [Nat.div_eq_zero_iff_lt (Nat.two_pow_pos _)] at e
    omega
  · intro h
    rcases Nat.lt_or_ge (i + 1) (grp v) with c | c
    · exact c
    · exfalso
      have h1 := lt_grp v hv
      have h2 : 2 ^ (4 * grp v) ≤ 2 ^ (4 * (i + 1)) := Nat.pow_le_pow_right (by decide) (by omega)
      exact h (Nat.div_eq_of_lt (by omega))
theorem bits_group (v n i : Nat) (b : Bool) (hb : b = decide (i + 1 < n)) : bitsN 5 (grpAt v n i) = bitsN 4 (v / 2 ^ (4 * i)) ++ [b] := by
  subst hb
  unfold grpAt
  generalize v / 2 ^ (4 * i) = y
  by_cases c : i + 1 < n
  · rw [if_pos c]
    have e0 : (y % 16 + 16) % 2 = y % 2 := by omega
    have e1 : (y % 16 + 16) / 2 % 2 = y / 2 % 2 := by omega
    have e2 : (y % 16 + 16) / 2 / 2 % 2 = y / 2 / 2 % 2 := by omega
    have e3 : (y % 16 + 16) / 2 / 2 / 2 % 2 = y / 2 / 2 / 2 % 2 := by omega
    have e4 : (y % 16 + 16) / 2 / 2 / 2 / 2 % 2 = 1 := by omega
    simp only [bitsN, e0, e1, e2, e3, e4, c]
    simp
  · rw [if_neg c]
    have e0 : (y % 16 + 0) % 2 = y % 2 := by omega
    have e1 : (y % 16 + 0) / 2 % 2 = y / 2 % 2 := by omega
    have e2 : (y % 16 + 0) / 2 / 2 % 2 = y / 2 / 2 % 2 := by omega
    have e3 : (y % 16 + 0) / 2 / 2 / 2 % 2 = y / 2 / 2 / 2 % 2 := by omega
    have e4 : (y % 16 + 0) / 2 / 2 / 2 / 2 % 2 = 0 := by omega
    simp only [bitsN, e0, e1, e2, e3, e4, c]
    simp
theorem div16 (v i : Nat) : v / 2 ^ (4 * i) / 2 ^ 4 = v / 2 ^ (4 * (i + 1)) := by
  rw [Nat.div_div_eq_div_mul, ← Nat.pow_add]; congr 1

end Go.Proofs.YtllhipfielgnbaaDoor
