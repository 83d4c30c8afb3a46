/-
  GetVar and GetInt of readers made by the law; what Var wrote is read again: plain facts.
-/
import Derived.Test.YtllhipfielgnbaaDoorNf
namespace Go.Proofs.YtllhipfielgnbaaDoor
open Go.RowKit
set_option linter.unusedVariables false
set_option maxRecDepth 100000

theorem lt_bitLen' (x : Nat) (h : x < 18446744073709551616) : x < 2 ^ Lib.bitLen x := by
  induction x using Nat.strongRecOn with
  | ind x ih =>
    by_cases h0 : x = 0
    · subst h0; exact Nat.two_pow_pos _
    · rw [Lib.bitLen_half x h0 h, Nat.add_comm, Nat.pow_succ]
      have := ih (x / 2) (by omega) (by omega)
      omega
theorem lt_grp (v : Nat) (h : v < 18446744073709551616) : v < 2 ^ (4 * grp v) := by
  have h1 := lt_bitLen' v h
  have h2 : 2 ^ Lib.bitLen v ≤ 2 ^ (4 * grp v) := Nat.pow_le_pow_right (by decide) (by unfold grp; omega)
  omega
/-- groups from k on -/
def varFrom (v n : Nat) : Nat → Nat → List Bool
  | _, 0 => []
  | k, m + 1 => bitsN 5 (grpAt v n k) ++ varFrom v n (k + 1) m
theorem varTo_from (v n k m : Nat) : varTo v n k ++ varFrom v n k m = varTo v n (k + m) := by
  induction m generalizing k with
  | zero => simp [varFrom]
  | succ m ih =>
    rw [varFrom, ← List.append_assoc, ← varTo, ih (k + 1)]
    congr 1; omega
theorem var_from (v : Nat) : var v = varFrom v (grp v) 0 (grp v) := by
  have h := varTo_from v (grp v) 0 (grp v)
  rw [Nat.zero_add] at h
  exact h.symm
theorem g5_group (x : Nat) (hx : x < 32) (R : List Bool) : g5 (bitsN 5 x ++ R) = x ∧ (bitsN 5 x ++ R).drop 5 = R ∧ ¬ (bitsN 5 x ++ R).length < 5 := by
  refine ⟨?_, ?_, ?_⟩
  · unfold g5; rw [List.take_left' (length_bitsN 5 x), num_bitsN]; exact Nat.mod_eq_of_lt hx
  · rw [List.drop_left' (length_bitsN 5 x)]
  · rw [List.length_append, length_bitsN]; omega
theorem mod_step (v k : Nat) : v % 2 ^ (4 * k) + v / 2 ^ (4 * k) % 16 * 2 ^ (4 * k) = v % 2 ^ (4 * (k + 1)) := by
  rw [show 4 * (k + 1) = 4 * k + 4 from by omega, Nat.pow_add, Nat.mod_mul, Nat.mul_comm (2 ^ (4 * k)) (v / 2 ^ (4 * k) % 2 ^ 4)]
theorem gvAux_var (v : Nat) (hv : v < 18446744073709551616) (R : List Bool) (m k : Nat) (hk : k + (m + 1) = grp v) : gvAux (16 - k) k (v % 2 ^ (4 * k)) (varFrom v (grp v) k (m + 1) ++ R) = (0, v, 5 * grp v) := by
  have hb := grp_bd v hv
  induction m generalizing k with
  | zero =>
    rw [varFrom, varFrom, List.append_nil, show 16 - k = (15 - k) + 1 from by omega, gvAux]
    obtain ⟨a, b, c⟩ := g5_group (grpAt v (grp v) k) (grpAt_lt _ _ _) R
    rw [if_neg c, a]
    have e : grpAt v (grp v) k = v / 2 ^ (4 * k) % 16 := by unfold grpAt; rw [if_neg (by omega)]; rfl
    rw [e, if_neg (by have := Nat.mod_lt (v / 2 ^ (4 * k)) (show 0 < 16 by decide); omega), Nat.mod_mod, mod_step]
    have ek : k + 1 = grp v := by omega
    rw [ek, Nat.mod_eq_of_lt (lt_grp v hv), if_neg (by simp)]
  | succ m ih =>
    rw [varFrom, List.append_assoc, show 16 - k = (15 - k) + 1 from by omega, gvAux]
    obtain ⟨a, b, c⟩ := g5_group (grpAt v (grp v) k) (grpAt_lt _ _ _) (varFrom v (grp v) (k + 1) (m + 1) ++ R)
    rw [if_neg c, a, b]
    have e : grpAt v (grp v) k = v / 2 ^ (4 * k) % 16 + 16 := by unfold grpAt; rw [if_pos (by omega)]
    have e2 : (v / 2 ^ (4 * k) % 16 + 16) % 16 = v / 2 ^ (4 * k) % 16 := by omega
    rw [e, if_pos (by omega), e2, mod_step, show 15 - k = 16 - (k + 1) from by omega]
    exact ih (k + 1) (by omega)
theorem gv_var (v : Nat) (hv : v < 18446744073709551616) (R : List Bool) : gv (var v ++ R) = (0, v, 5 * grp v) := by
  have hb := grp_bd v hv
  obtain ⟨m, hm⟩ : ∃ m, grp v = m + 1 := ⟨grp v - 1, by omega⟩
  have h := gvAux_var v hv R m 0 (by omega)
  rw [Nat.mul_zero, Nat.pow_zero, Nat.mod_one, Nat.sub_zero] at h
  unfold gv
  rw [var_from, hm]
  rw [hm] at h
  exact h

end Go.Proofs.YtllhipfielgnbaaDoor
