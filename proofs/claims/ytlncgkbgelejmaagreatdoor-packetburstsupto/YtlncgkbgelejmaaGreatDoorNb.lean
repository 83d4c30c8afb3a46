/-
  span, Width, groups, Zig and Zag of package nums.
-/
import Derived.Test.YtlncgkbgelejmaaGreatDoorNa
namespace Go.Proofs.YtlncgkbgelejmaaGreatDoor
open Go.RowKit
set_option linter.unusedVariables false

theorem wrapU (n : Int) : IntKind.u64.wrap n = n % 18446744073709551616 := IntKind.wrap_u64 n

set_option maxHeartbeats 400000 in
theorem span_any (lo hi : Int) (d : Nat) (w : World) (h0 : -9223372036854775808 ≤ lo) (h1 : hi ≤ 9223372036854775807) (hd : hi = lo + (d : Int)) :
    Calls Tryz.prog 108 #[.int .i64 lo, .int .i64 hi] w fun e w' => e = .returned (.int .u64 (d : Int)) ∧ w' = w := by
  have hle : lo ≤ hi := by omega
  have H : Hid (hi = lo + (d : Int)) := hd
  clear hd
  go_enter Tryz.func108, Tryz.ntmps108
  go_wp2
  go_ret
  refine ⟨ret_int ?_, rfl⟩
  have := H.out
  simp only [wrapU]
  omega

/-- how many bits a range takes -/
def wid (lo hi : Int) : Nat := if hi < lo then 0 else Lib.bitLen (hi - lo).toNat

set_option maxHeartbeats 400000 in
theorem width_any (lo hi : Int) (w : World) (h0 : -9223372036854775808 ≤ lo) (h1 : hi ≤ 9223372036854775807) (h2 : lo ≤ 9223372036854775807) (h3 : -9223372036854775808 ≤ hi) :
    Calls Tryz.prog 107 #[.int .i64 lo, .int .i64 hi] w fun e w' => e = .returned (.int .i64 (wid lo hi : Nat)) ∧ w' = w := by
  by_cases h : hi < lo
  · have e0 : wid lo hi = 0 := by unfold wid; rw [if_pos h]
    rw [e0]
    go_enter Tryz.func107, Tryz.ntmps107
    go_wp2
    go_ret
    exact ⟨rfl, rfl⟩
  · have e0 : wid lo hi = Lib.bitLen (hi - lo).toNat := by unfold wid; rw [if_neg h]
    obtain ⟨d, hd⟩ : ∃ d : Nat, d = (hi - lo).toNat := ⟨_, rfl⟩
    rw [e0, ← hd]
    have H : Hid (hi = lo + (d : Int) ∧ d < 18446744073709551616) := ⟨by omega, by omega⟩
    clear e0 hd
    go_enter Tryz.func107, Tryz.ntmps107
    go_wp2_with fail
    refine (span_any lo hi d w h0 h1 H.out.1).mono ?_
    rintro e w' ⟨rfl, rfl⟩
    go_wp2_with fail
    refine (len64_any d _ H.out.2).mono ?_
    rintro e w' ⟨rfl, rfl⟩
    go_wp2
    go_ret
    exact ⟨rfl, rfl⟩

/-- how many groups a number has -/
def grp (v : Nat) : Nat := max 1 ((Lib.bitLen v + 3) / 4)
theorem bitLen_64 (v : Nat) (h : v < 18446744073709551616) : Lib.bitLen v ≤ 64 := Lib.bitLen_le v 64 (by decide) h

set_option maxHeartbeats 400000 in
theorem groups_any (v : Nat) (w : World) (hv : v < 18446744073709551616) :
    Calls Tryz.prog 117 #[.int .u64 v] w fun e w' => e = .returned (.int .i64 (grp v : Nat)) ∧ w' = w := by
  have hb := bitLen_64 v hv
  have HG : Hid (((grp v : Nat) : Int) = max 1 ((((Lib.bitLen v : Nat) : Int) + 4 - 1) / 4)) := by show _ = _; unfold grp; omega
  go_enter Tryz.func117, Tryz.ntmps117
  go_wp2_with fail
  refine (len64_any v w hv).mono ?_
  generalize Lib.bitLen v = l at *
  rintro e w' ⟨rfl, rfl⟩
  go_wp2
  go_ret
  exact ⟨ret_int HG.out.symm, rfl⟩

theorem xor_ones (a : Nat) (ha : a < 18446744073709551616) : a ^^^ 18446744073709551615 = 18446744073709551615 - a := by
  have h := BitVec.toNat_xor (BitVec.ofNat 64 a) (BitVec.allOnes 64)
  rw [BitVec.xor_allOnes, BitVec.toNat_not, BitVec.toNat_allOnes, BitVec.toNat_ofNat, Nat.mod_eq_of_lt ha] at h
  exact h.symm
theorem u64_xor_ones (a : Nat) (ha : a < 18446744073709551616) : bits .xor .u64 (a : Int) 18446744073709551615 = 18446744073709551615 - (a : Int) := by
  have h := u64_xor_nat a 18446744073709551615 ha (by decide)
  rw [xor_ones a ha] at h
  have e : ((18446744073709551615 : Nat) : Int) = 18446744073709551615 := rfl
  rw [e] at h
  rw [h]; omega
theorem u64_xor_zero (a : Nat) (ha : a < 18446744073709551616) : bits .xor .u64 (a : Int) 0 = (a : Int) := by
  have h := u64_xor_nat a 0 ha (by decide)
  simpa using h
theorem i64_xor_zero (a : Nat) (ha : a < 9223372036854775808) : bits .xor .i64 (a : Int) 0 = (a : Int) := by
  show IntKind.i64.wrap ((BitVec.ofInt 64 (a : Int) ^^^ BitVec.ofInt 64 0).toNat : Int) = _
  rw [BitVec.toNat_xor, ofInt_u64 a (by omega), IntKind.wrap_i64]
  have e : (BitVec.ofInt 64 0).toNat = 0 := rfl
  rw [e, Nat.xor_zero]
  omega
theorem i64_xor_ones (a : Nat) (ha : a < 9223372036854775808) : bits .xor .i64 (a : Int) (-1) = -1 - (a : Int) := by
  show IntKind.i64.wrap ((BitVec.ofInt 64 (a : Int) ^^^ BitVec.ofInt 64 (-1)).toNat : Int) = _
  rw [BitVec.toNat_xor, ofInt_u64 a (by omega), IntKind.wrap_i64]
  have e : (BitVec.ofInt 64 (-1)).toNat = 18446744073709551615 := by decide
  rw [e, xor_ones a (by omega)]
  omega

/-- what Zig and Zag are -/
def zig (n : Int) : Nat := if n < 0 then (-2 * n - 1).toNat else (2 * n).toNat
def zag (v : Nat) : Int := if v % 2 = 0 then (v : Int) / 2 else -1 - (v : Int) / 2
theorem zig_lt (n : Int) (h0 : -9223372036854775808 ≤ n) (h1 : n ≤ 9223372036854775807) : zig n < 18446744073709551616 := by unfold zig; split <;> omega
theorem zag_zig (n : Int) : zag (zig n) = n := by
  unfold zag zig
  by_cases h : n < 0
  · rw [if_pos h]; split <;> omega
  · rw [if_neg h]; split <;> omega
theorem zig_zag (v : Nat) : zig (zag v) = v := by
  unfold zag zig
  by_cases h : v % 2 = 0
  · rw [if_pos h]; split <;> omega
  · rw [if_neg h]; split <;> omega
theorem zag_rng (v : Nat) (hv : v < 18446744073709551616) : -9223372036854775808 ≤ zag v ∧ zag v ≤ 9223372036854775807 := by unfold zag; split <;> omega

set_option maxHeartbeats 400000 in
theorem zig_any (n : Int) (w : World) (h0 : -9223372036854775808 ≤ n) (h1 : n ≤ 9223372036854775807) :
    Calls Tryz.prog 211 #[.int .i64 n] w fun e w' => e = .returned (.int .u64 (zig n : Nat)) ∧ w' = w := by
  by_cases h : n < 0
  · have e : zig n = (-2 * n - 1).toNat := by unfold zig; rw [if_pos h]
    rw [e]
    go_enter Tryz.func211, Tryz.ntmps211
    go_wp2
    go_ret
    refine ⟨ret_int ?_, rfl⟩
    have e1 : IntKind.u64.wrap (IntKind.u64.wrap n * 2) = (((18446744073709551616 + 2 * n).toNat : Nat) : Int) := by simp only [wrapU]; omega
    have e2 : IntKind.u64.wrap (n / 9223372036854775808) = 18446744073709551615 := by simp only [wrapU]; omega
    rw [e1, e2, u64_xor_ones _ (by omega)]
    omega
  · have e : zig n = (2 * n).toNat := by unfold zig; rw [if_neg h]
    have h' : 0 ≤ n := by omega
    rw [e]
    clear e
    go_enter Tryz.func211, Tryz.ntmps211
    go_wp2
    go_ret
    refine ⟨ret_int ?_, rfl⟩
    have e1 : n * 2 = (((n * 2).toNat : Nat) : Int) := by omega
    have e2 : n / 9223372036854775808 = 0 := by omega
    rw [e2, e1, u64_xor_zero _ (by omega)]
    omega

theorem and_one (v : Nat) (hv : v < 18446744073709551616) : bits .and .u64 (v : Int) 1 = ((v % 2 : Nat) : Int) := by
  have h3 := u64_and_nat v 1 hv (by decide)
  have h1 : ((1 : Nat) : Int) = 1 := rfl
  rw [h1] at h3
  rw [h3, nat_mask1]

set_option maxHeartbeats 400000 in
theorem zag_any (v : Nat) (w : World) (hv : v < 18446744073709551616) :
    Calls Tryz.prog 197 #[.int .u64 v] w fun e w' => e = .returned (.int .i64 (zag v)) ∧ w' = w := by
  have ha := and_one v hv
  by_cases h : v % 2 = 0
  · have e : zag v = ((v / 2 : Nat) : Int) := by unfold zag; rw [if_pos h]; omega
    have hA : bits .and .u64 (v : Int) 1 = 0 := by rw [ha, h]; rfl
    rw [e]
    clear e ha h
    go_enter Tryz.func197, Tryz.ntmps197
    go_wp2
    go_ret
    refine ⟨ret_int ?_, rfl⟩
    have e1 : (v : Int) / 2 = ((v / 2 : Nat) : Int) := by omega
    rw [e1]
    exact i64_xor_zero _ (by omega)
  · have e : zag v = -1 - ((v / 2 : Nat) : Int) := by unfold zag; rw [if_neg h]; omega
    have hA : bits .and .u64 (v : Int) 1 = 1 := by rw [ha]; omega
    rw [e]
    clear e ha h
    go_enter Tryz.func197, Tryz.ntmps197
    go_wp2
    go_ret
    refine ⟨ret_int ?_, rfl⟩
    have e1 : (v : Int) / 2 = ((v / 2 : Nat) : Int) := by omega
    rw [e1]
    exact i64_xor_ones _ (by omega)

end Go.Proofs.YtlncgkbgelejmaaGreatDoor

