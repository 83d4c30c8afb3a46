/-
  What Put does to a writer.
-/
import Derived.Test.YtiphkndahoageaaWc
namespace Go.Proofs.Ytiphkndahoageaa
open Go.RowKit
set_option linter.unusedVariables false

theorem bit_val (v k : Nat) (hv : v < 18446744073709551616) : bits .and .u64 ((v : Int) / 2 ^ k) 1 % 256 = (((v / 2 ^ k % 2 == 1) : Bool).toNat : Int) := by
  have h2 : ((v : Int) / 2 ^ k) = ((v / 2 ^ k : Nat) : Int) := by simp
  have hle : v / 2 ^ k ≤ v := Nat.div_le_self _ _
  have h3 := u64_and_nat (v / 2 ^ k) 1 (by omega) (by decide)
  rw [h2]
  have h1 : ((1 : Nat) : Int) = 1 := rfl
  rw [h1] at h3
  rw [h3, nat_mask1]
  have hc : v / 2 ^ k % 2 = 0 ∨ v / 2 ^ k % 2 = 1 := by omega
  rcases hc with hc | hc <;> rw [hc] <;> rfl

theorem shr_ne (v n : Nat) (h : 2 ^ n ≤ v) : ((v : Int) / 2 ^ n != 0) = true := by
  have h1 : 0 < v / 2 ^ n := Nat.div_pos h (Nat.two_pow_pos _)
  have h2 : ((v : Int) / 2 ^ n) = ((v / 2 ^ n : Nat) : Int) := by simp
  rw [h2, bne_iff_ne]; omega
theorem shr_eq (v n : Nat) (h : v < 2 ^ n) : ((v : Int) / 2 ^ n != 0) = false := by
  have h1 : v / 2 ^ n = 0 := Nat.div_eq_of_lt h
  have h2 : ((v : Int) / 2 ^ n) = ((v / 2 ^ n : Nat) : Int) := by simp
  rw [h2, h1]; rfl

end Go.Proofs.Ytiphkndahoageaa

