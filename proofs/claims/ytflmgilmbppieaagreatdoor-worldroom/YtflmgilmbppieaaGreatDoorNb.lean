/-
  span, Width, groups, Zig and Zag of package nums.
-/
import Derived.Test.YtflmgilmbppieaaGreatDoorNa
namespace Go.Proofs.YtflmgilmbppieaaGreatDoor
open Go.RowKit
set_option linter.unusedVariables false

theorem wrapU (n : Int) : IntKind.u64.wrap n = n % 18446744073709551616 := IntKind.wrap_u64 n

/-- how many bits a range takes -/
def wid (lo hi : Int) : Nat := if hi < lo then 0 else Lib.bitLen (hi - lo).toNat

/-- how many groups a number has -/
def grp (v : Nat) : Nat := max 1 ((Lib.bitLen v + 3) / 4)
theorem bitLen_64 (v : Nat) (h : v < 18446744073709551616) : Lib.bitLen v ≤ 64 := Lib.bitLen_le v 64 (by decide) h

theorem xor_ones (a : Nat) (ha : a < 18446744073709551616) : a ^^^ 18446744073709551615 = 18446744073709551615 - a := by
  have h := BitVec.toNat_xor (BitVec.ofNat 64 a) (BitVec.allOnes 64)
  rw [BitVec.xor_allOnes, BitVec.toNat_not, BitVec.toNat_allOnes, BitVec.toNat_ofNat, Nat.mod_eq_of_lt ha] at h
  exact h.symm
theorem u64_xor_ones (a : Nat) (ha : a < 18446744073709551616) : bits .xor .u64 (a : Int) 18446744073709551615 = 18446744073709551615 - (a : Int) := by
  have h := u64_xor_nat a 18446744073709551615 ha (by decide)
  rw [xor_ones a ha] at h
  have e : ((18446744073709551615 : Nat) : Int) = 18446744073709551615 := rfl
  rw [e] at h
  rw [h]; omega
theorem u64_xor_zero (a : Nat) (ha : a < 18446744073709551616) : bits .xor .u64 (a : Int) 0 = (a : Int) := by
  have h := u64_xor_nat a 0 ha (by decide)
  simpa using h
theorem i64_xor_zero (a : Nat) (ha : a < 9223372036854775808) : bits .xor .i64 (a : Int) 0 = (a : Int) := by
  show IntKind.i64.wrap ((BitVec.ofInt 64 (a : Int) ^^^ BitVec.ofInt 64 0).toNat : Int) = _
  rw [BitVec.toNat_xor, ofInt_u64 a (by omega), IntKind.wrap_i64]
  have e : (BitVec.ofInt 64 0).toNat = 0 := rfl
  rw [e, Nat.xor_zero]
  omega
theorem i64_xor_ones (a : Nat) (ha : a < 9223372036854775808) : bits .xor .i64 (a : Int) (-1) = -1 - (a : Int) := by
  show IntKind.i64.wrap ((BitVec.ofInt 64 (a : Int) ^^^ BitVec.ofInt 64 (-1)).toNat : Int) = _
  rw [BitVec.toNat_xor, ofInt_u64 a (by omega), IntKind.wrap_i64]
  have e : (BitVec.ofInt 64 (-1)).toNat = 18446744073709551615 := by decide
  rw [e, xor_ones a (by omega)]
  omega

/-- what Zig and Zag are -/
def zig (n : Int) : Nat := if n < 0 then (-2 * n - 1).toNat else (2 * n).toNat
def zag (v : Nat) : Int := if v % 2 = 0 then (v : Int) / 2 else -1 - (v : Int) / 2
theorem zig_lt (n : Int) (h0 : -9223372036854775808 ≤ n) (h1 : n ≤ 9223372036854775807) : zig n < 18446744073709551616 := by unfold zig; split <;> omega
theorem zag_zig (n : Int) : zag (zig n) = n := by
  unfold zag zig
  by_cases h : n < 0
  · rw [if_pos h]; split <;> omega
  · rw [if_neg h]; split <;> omega
theorem zig_zag (v : Nat) : zig (zag v) = v := by
  unfold zag zig
  by_cases h : v % 2 = 0
  · rw [if_pos h]; split <;> omega
  · rw [if_neg h]; split <;> omega
theorem zag_rng (v : Nat) (hv : v < 18446744073709551616) : -9223372036854775808 ≤ zag v ∧ zag v ≤ 9223372036854775807 := by unfold zag; split <;> omega

theorem and_one (v : Nat) (hv : v < 18446744073709551616) : bits .and .u64 (v : Int) 1 = ((v % 2 : Nat) : Int) := by
  have h3 := u64_and_nat v 1 hv (by decide)
  have h1 : ((1 : Nat) : Int) = 1 := rfl
  rw [h1] at h3
  rw [h3, nat_mask1]

end Go.Proofs.YtflmgilmbppieaaGreatDoor
