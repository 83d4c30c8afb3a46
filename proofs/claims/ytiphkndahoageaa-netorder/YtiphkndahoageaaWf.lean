/-
  The walks of Read, Left, next, Get and End of package bits.
-/
import Derived.Test.YtiphkndahoageaaWe
import Derived.Test.YtiphkndahoageaaPm
namespace Go.Proofs.Ytiphkndahoageaa
open Go.RowKit
set_option linter.unusedVariables false

theorem and_one_u8 (x r : Nat) (hx : x < 256) : bits .and .u8 ((x : Int) / 2 ^ r) 1 = ((x / 2 ^ r % 2 : Nat) : Int) := by
  have h2 : ((x : Int) / 2 ^ r) = ((x / 2 ^ r : Nat) : Int) := by simp
  have hle : x / 2 ^ r ≤ x := Nat.div_le_self _ _
  have h3 := u8_and_nat (x / 2 ^ r) 1 (by omega) (by decide)
  have h1 : ((1 : Nat) : Int) = 1 := rfl
  rw [h1] at h3
  rw [h2, h3, nat_mask1]
theorem or_num (m k x r : Nat) (hm : m < 2 ^ k) (hk : k < 64) (hx : x < 256) :
    bits .or .u64 (m : Int) (IntKind.u64.wrap (IntKind.u64.wrap (bits .and .u8 ((x : Int) / 2 ^ r) 1) * 2 ^ k)) = ((m + x / 2 ^ r % 2 * 2 ^ k : Nat) : Int) := by
  have hp : 2 ^ k ≤ 9223372036854775808 := by
    have := Nat.pow_le_pow_right (n := 2) (by decide) (show k ≤ 63 by omega)
    simpa using this
  have hc : x / 2 ^ r % 2 = 0 ∨ x / 2 ^ r % 2 = 1 := by omega
  have hk2 : ((2 : Int) ^ k) = ((2 ^ k : Nat) : Int) := by simp
  rw [and_one_u8 x r hx, hk2, IntKind.wrap_u64, IntKind.wrap_u64]
  rcases hc with hc | hc
  · rw [hc]
    have := u64_or_nat m 0 (by omega) (by decide)
    simpa using this
  · rw [hc]
    have e : ((((1 : Nat) : Int) % 18446744073709551616 * ((2 ^ k : Nat) : Int)) % 18446744073709551616) = ((2 ^ k : Nat) : Int) := by omega
    rw [e, u64_or_nat m (2 ^ k) (by omega) (by omega), Nat.or_comm, nat_join k (2 ^ k) m (by simp) hm, Nat.one_mul, Nat.add_comm]

end Go.Proofs.Ytiphkndahoageaa

