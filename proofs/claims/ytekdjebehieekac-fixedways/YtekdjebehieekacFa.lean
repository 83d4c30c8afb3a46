/-
  keep, Add, Sub, Mul, Div, Floor of package fixed: what each call answers.
-/
import Derived.Test.YtekdjebehieekacRows
import Derived.WalkKit
import Derived.WalkSpells
import Derived.WalkLawsBesides
import Derived.BigRegion
import Derived.BigQuiet
import Derived.Deep.QuietTactic
namespace Go.Proofs.Ytekdjebehieekac
open Go.RowKit
set_option linter.unusedVariables false

theorem ret_int {k : IntKind} {a b : Int} (h : a = b) : Ending.returned (.int k a) = .returned (.int k b) := by rw [h]
/-- kept in -/
def kp (n : Int) : Int := if n < -2147483648 then -2147483648 else if 2147483647 < n then 2147483647 else n
theorem kp_rng (n : Int) : -2147483648 ≤ kp n ∧ kp n ≤ 2147483647 := by
  unfold kp
  by_cases h1 : n < -2147483648
  · rw [if_pos h1]; omega
  · rw [if_neg h1]; split <;> omega
theorem kp_mono (a b : Int) (h : a ≤ b) : kp a ≤ kp b := by
  unfold kp
  by_cases h1 : a < -2147483648
  · rw [if_pos h1]; have := kp_rng b; unfold kp at this; omega
  · rw [if_neg h1, if_neg (show ¬ b < -2147483648 by omega)]
    split <;> split <;> omega
theorem kp_id (a : Int) (h0 : -2147483648 ≤ a) (h1 : a ≤ 2147483647) : kp a = a := by unfold kp; rw [if_neg (by omega), if_neg (by omega)]

set_option maxHeartbeats 400000 in
theorem keep_any (n : Int) (w : World) (h0 : -9223372036854775808 ≤ n) (h1 : n ≤ 9223372036854775807) :
    Calls Try.prog 13 #[.int .i64 n] w fun e w' => e = .returned (.int .i32 (kp n)) ∧ w' = w := by
  unfold kp
  by_cases c0 : n < -2147483648
  · rw [if_pos c0]
    go_enter Try.func13, Try.ntmps13
    go_wp2
    go_ret
    exact ⟨rfl, rfl⟩
  · rw [if_neg c0]
    by_cases c1 : 2147483647 < n
    · rw [if_pos c1]
      go_enter Try.func13, Try.ntmps13
      go_wp2
      go_ret
      exact ⟨rfl, rfl⟩
    · rw [if_neg c1]
      go_enter Try.func13, Try.ntmps13
      go_wp2
      go_ret
      exact ⟨rfl, rfl⟩

set_option maxHeartbeats 400000 in
theorem add_any (a b : Int) (w : World) (a0 : -2147483648 ≤ a) (a1 : a ≤ 2147483647) (b0 : -2147483648 ≤ b) (b1 : b ≤ 2147483647) :
    Calls Try.prog 6 #[.int .i32 a, .int .i32 b] w fun e w' => e = .returned (.int .i32 (kp (a + b))) ∧ w' = w := by
  go_enter Try.func6, Try.ntmps6
  go_wp2_with fail
  refine (keep_any _ w (by omega) (by omega)).mono ?_
  rintro e w' ⟨rfl, rfl⟩
  go_wp2
  go_ret
  exact ⟨rfl, rfl⟩
set_option maxHeartbeats 400000 in
theorem sub_any (a b : Int) (w : World) (a0 : -2147483648 ≤ a) (a1 : a ≤ 2147483647) (b0 : -2147483648 ≤ b) (b1 : b ≤ 2147483647) :
    Calls Try.prog 7 #[.int .i32 a, .int .i32 b] w fun e w' => e = .returned (.int .i32 (kp (a - b))) ∧ w' = w := by
  go_enter Try.func7, Try.ntmps7
  go_wp2_with fail
  refine (keep_any _ w (by omega) (by omega)).mono ?_
  rintro e w' ⟨rfl, rfl⟩
  go_wp2
  go_ret
  exact ⟨rfl, rfl⟩

theorem abs_le (a : Int) (k : Nat) (h0 : -(k : Int) ≤ a) (h1 : a ≤ k) : a.natAbs ≤ k := by omega
theorem mul_rng (a b : Int) (j k : Nat) (a0 : -(j : Int) ≤ a) (a1 : a ≤ j) (b0 : -(k : Int) ≤ b) (b1 : b ≤ k) : -((j * k : Nat) : Int) ≤ a * b ∧ a * b ≤ ((j * k : Nat) : Int) := by
  have h : (a * b).natAbs ≤ j * k := by rw [Int.natAbs_mul]; exact Nat.mul_le_mul (abs_le a j a0 a1) (abs_le b k b0 b1)
  omega
theorem mul_rng31 (a b : Int) (a0 : -2147483648 ≤ a) (a1 : a ≤ 2147483647) (b0 : -2147483648 ≤ b) (b1 : b ≤ 2147483647) : -4611686018427387904 ≤ a * b ∧ a * b ≤ 4611686018427387904 :=
  mul_rng a b 2147483648 2147483648 (by omega) (by omega) (by omega) (by omega)
theorem tdiv_rng (a b : Int) (k : Nat) (h0 : -(k : Int) ≤ a) (h1 : a ≤ k) : -(k : Int) ≤ a.tdiv b ∧ a.tdiv b ≤ k := by
  have h : (a.tdiv b).natAbs ≤ k := by rw [Int.natAbs_tdiv]; exact Nat.le_trans (Nat.div_le_self _ _) (abs_le a k h0 h1)
  omega

set_option maxHeartbeats 400000 in
theorem mul_any (a b : Int) (w : World) (a0 : -2147483648 ≤ a) (a1 : a ≤ 2147483647) (b0 : -2147483648 ≤ b) (b1 : b ≤ 2147483647) :
    Calls Try.prog 9 #[.int .i32 a, .int .i32 b] w fun e w' => e = .returned (.int .i32 (kp ((a * b).tdiv 256))) ∧ w' = w := by
  have hm := mul_rng31 a b a0 a1 b0 b1
  generalize hr : a * b = m at *
  obtain ⟨m0, m1⟩ := hm
  obtain ⟨t0, t1⟩ := tdiv_rng m 256 4611686018427387904 m0 m1
  go_enter Try.func9, Try.ntmps9
  go_wp2_with fail
  refine (keep_any _ w ?_ ?_).mono ?_
  · omega
  · omega
  rintro e w' ⟨rfl, rfl⟩
  go_wp2
  go_ret
  exact ⟨rfl, rfl⟩

set_option maxHeartbeats 400000 in
theorem div_zero (a : Int) (w : World) (a0 : -2147483648 ≤ a) (a1 : a ≤ 2147483647) :
    Calls Try.prog 11 #[.int .i32 a, .int .i32 0] w fun e w' => e = .returned (.tuple #[.int .i32 0, .int .i64 1]) ∧ w' = w := by
  go_enter Try.func11, Try.ntmps11
  go_wp2
  go_ret2
  exact ⟨rfl, rfl⟩
set_option maxHeartbeats 400000 in
theorem div_any (a b : Int) (w : World) (a0 : -2147483648 ≤ a) (a1 : a ≤ 2147483647) (b0 : -2147483648 ≤ b) (b1 : b ≤ 2147483647) (hb : b ≠ 0) :
    Calls Try.prog 11 #[.int .i32 a, .int .i32 b] w fun e w' => e = .returned (.tuple #[.int .i32 (kp ((a * 256).tdiv b)), .int .i64 0]) ∧ w' = w := by
  obtain ⟨t0, t1⟩ := tdiv_rng (a * 256) b 1099511627776 (by omega) (by omega)
  go_enter Try.func11, Try.ntmps11
  go_wp2_with fail
  refine (keep_any _ w ?_ ?_).mono ?_
  · omega
  · omega
  rintro e w' ⟨rfl, rfl⟩
  go_wp2
  go_ret2
  exact ⟨rfl, rfl⟩

theorem tdiv_neg256 (a : Int) (h : a < 0) : a.tdiv 256 = -((-a) / 256) := by
  have := Int.neg_tdiv (-a) 256
  rw [Int.neg_neg, Int.tdiv_eq_ediv_of_nonneg (show 0 ≤ -a by omega)] at this
  exact this
theorem tmod_neg256 (a : Int) (h : a < 0) : a.tmod 256 = -((-a) % 256) := by
  have := Int.neg_tmod (-a) 256
  rw [Int.neg_neg, Int.tmod_eq_emod_of_nonneg (show 0 ≤ -a by omega)] at this
  exact this
set_option maxHeartbeats 400000 in
theorem floor_any (a : Int) (w : World) (a0 : -2147483648 ≤ a) (a1 : a ≤ 2147483647) :
    Calls Try.prog 8 #[.int .i32 a] w fun e w' => e = .returned (.int .i64 (a / 256)) ∧ w' = w := by
  by_cases h : a < 0
  · by_cases c : a % 256 = 0
    · have hm : a.tmod 256 = 0 := by rw [tmod_neg256 a h]; omega
      have hd : a.tdiv 256 = a / 256 := by rw [tdiv_neg256 a h]; omega
      go_enter Try.func8, Try.ntmps8
      go_wp2
      go_ret
      exact ⟨rfl, rfl⟩
    · have hm0 : a.tmod 256 < 0 := by rw [tmod_neg256 a h]; omega
      have hm1 : -256 ≤ a.tmod 256 := by rw [tmod_neg256 a h]; omega
      have hd : a.tdiv 256 = a / 256 + 1 := by rw [tdiv_neg256 a h]; omega
      go_enter Try.func8, Try.ntmps8
      go_wp2
      go_ret
      exact ⟨ret_int (by omega), rfl⟩
  · have hm : a.tmod 256 = a % 256 := Int.tmod_eq_emod_of_nonneg (by omega)
    have hd : a.tdiv 256 = a / 256 := Int.tdiv_eq_ediv_of_nonneg (by omega)
    go_enter Try.func8, Try.ntmps8
    go_wp2
    go_ret
    exact ⟨rfl, rfl⟩

/-- r is the root of n -/
def IsR (n r : Nat) : Prop := r * r ≤ n ∧ n < (r + 1) * (r + 1)
theorem isR_uniq (n r s : Nat) (h : IsR n r) (k : IsR n s) : r = s := by
  have h1 : r < s + 1 := Nat.lt_of_not_le fun c => by have := Nat.mul_le_mul c c; have := h.1; have := k.2; omega
  have h2 : s < r + 1 := Nat.lt_of_not_le fun c => by have := Nat.mul_le_mul c c; have := k.1; have := h.2; omega
  omega
theorem isR_lt (n r : Nat) (hn : n < 18446744073709551616) (h : IsR n r) : r < 4294967296 := by
  refine Nat.lt_of_not_le fun c => ?_
  have := Nat.mul_le_mul c c
  have := h.1
  omega
theorem isR_ex (n : Nat) : ∃ r, IsR n r := by
  induction n with
  | zero => exact ⟨0, by decide, by decide⟩
  | succ n ih =>
    obtain ⟨r, h1, h2⟩ := ih
    by_cases c : n + 1 < (r + 1) * (r + 1)
    · exact ⟨r, by omega, c⟩
    · refine ⟨r + 1, by omega, ?_⟩
      have : (r + 1 + 1) * (r + 1 + 1) = (r + 1) * (r + 1) + 2 * (r + 1) + 1 := by rw [Nat.add_mul, Nat.mul_add]; omega
      omega
/-- behind i rounds: the root's highest i bits of 32 -/
def rtTop (r i : Nat) : Nat := r / 2 ^ (32 - i) * 2 ^ (32 - i)
theorem rtTop_succ (r i : Nat) (hi : i < 32) : rtTop r (i + 1) = rtTop r i + r / 2 ^ (31 - i) % 2 * 2 ^ (31 - i) := by
  unfold rtTop
  have e : 32 - i = (31 - i) + 1 := by omega
  have e2 : 32 - (i + 1) = 31 - i := by omega
  rw [e, e2, Nat.pow_succ, ← Nat.div_div_eq_div_mul]
  generalize hp : 2 ^ (31 - i) = p
  generalize r / p = q
  have : q = q / 2 * 2 + q % 2 := by omega
  calc q * p = (q / 2 * 2 + q % 2) * p := by rw [← this]
    _ = q / 2 * (p * 2) + q % 2 * p := by rw [Nat.add_mul, Nat.mul_assoc, Nat.mul_comm 2 p]
theorem rt_test (n r i : Nat) (hi : i < 32) (h : IsR n r) : ((rtTop r i + 2 ^ (31 - i)) * (rtTop r i + 2 ^ (31 - i)) ≤ n ↔ r / 2 ^ (31 - i) % 2 = 1) := by
  have hp : 0 < 2 ^ (31 - i) := Nat.two_pow_pos _
  have e : 32 - i = (31 - i) + 1 := by omega
  have key : rtTop r i + 2 ^ (31 - i) ≤ r ↔ r / 2 ^ (31 - i) % 2 = 1 := by
    unfold rtTop
    rw [e, Nat.pow_succ, ← Nat.div_div_eq_div_mul]
    have h1 := Nat.div_add_mod r (2 ^ (31 - i))
    have h2 := Nat.mod_lt r hp
    generalize 2 ^ (31 - i) = p at *
    generalize r / p = q at *
    have e3 : q / 2 * (p * 2) + p = (q / 2 * 2 + 1) * p := by rw [Nat.add_mul, Nat.mul_assoc, Nat.mul_comm 2 p, Nat.one_mul]
    rw [e3]
    constructor
    · intro hle
      have : q / 2 * 2 + 1 ≤ q := by
        refine Nat.le_of_lt_succ (Nat.lt_of_mul_lt_mul_right (a := p) ?_)
        have e4 : q.succ * p = p * q + p := by rw [Nat.succ_mul, Nat.mul_comm q p]
        omega
      omega
    · intro hq
      have : q / 2 * 2 + 1 = q := by omega
      rw [this, Nat.mul_comm]; omega
  rw [← key]
  constructor
  · intro c
    refine Nat.le_of_not_lt fun d => ?_
    have := Nat.mul_le_mul (show r + 1 ≤ _ from d) (show r + 1 ≤ _ from d)
    have := h.2
    omega
  · intro c
    exact Nat.le_trans (Nat.mul_le_mul c c) h.1

theorem top_lt (r i : Nat) (hr : r < 4294967296) (hi : i < 32) : rtTop r i + 2 ^ (31 - i) < 4294967296 := by
  unfold rtTop
  have hp : 2 ^ (31 - i) < 2 ^ (32 - i) := Nat.pow_lt_pow_right (by decide) (by omega)
  have e : 2 ^ i * 2 ^ (32 - i) = 4294967296 := by rw [← Nat.pow_add, show i + (32 - i) = 32 by omega]
  have hp0 := Nat.two_pow_pos (32 - i)
  generalize 2 ^ (32 - i) = p at *
  have h1 : r / p < 2 ^ i := by rw [Nat.div_lt_iff_lt_mul hp0, e]; exact hr
  have h2 := Nat.mul_le_mul_right p (show r / p + 1 ≤ 2 ^ i from h1)
  rw [e, Nat.add_mul, Nat.one_mul] at h2
  omega
theorem u64_or_top (r i : Nat) (hr : r < 4294967296) (hi : i < 32) : bits .or .u64 ((rtTop r i : Nat) : Int) (IntKind.u64.wrap (2 ^ (31 - i))) = ((rtTop r i + 2 ^ (31 - i) : Nat) : Int) := by
  have h1 := top_lt r i hr hi
  have hp : 2 ^ (31 - i) < 2 ^ (32 - i) := Nat.pow_lt_pow_right (by decide) (by omega)
  have h3 : rtTop r i < 18446744073709551616 := Nat.lt_of_le_of_lt (Nat.le_add_right _ _) (Nat.lt_trans h1 (by decide))
  have h4 : 2 ^ (31 - i) < 18446744073709551616 := Nat.lt_of_le_of_lt (Nat.le_add_left _ _) (Nat.lt_trans h1 (by decide))
  have e : IntKind.u64.wrap (2 ^ (31 - i)) = ((2 ^ (31 - i) : Nat) : Int) := by
    rw [IntKind.wrap_u64]
    have : ((2 : Int) ^ (31 - i)) = ((2 ^ (31 - i) : Nat) : Int) := by simp
    rw [this]; exact Int.emod_eq_of_lt (Int.natCast_nonneg _) (Int.ofNat_lt.2 h4)
  rw [e, u64_or_nat _ _ h3 h4]
  unfold rtTop
  rw [Nat.mul_comm, Nat.two_pow_add_eq_or_of_lt hp]
theorem rt_wrap (r i : Nat) (hr : r < 4294967296) (hi : i < 32) : IntKind.u64.wrap (bits .or .u64 ((rtTop r i : Nat) : Int) (IntKind.u64.wrap (2 ^ (31 - i))) * bits .or .u64 ((rtTop r i : Nat) : Int) (IntKind.u64.wrap (2 ^ (31 - i)))) = (((rtTop r i + 2 ^ (31 - i)) * (rtTop r i + 2 ^ (31 - i)) : Nat) : Int) := by
  rw [u64_or_top r i hr hi, IntKind.wrap_u64]
  have h1 := top_lt r i hr hi
  generalize rtTop r i + 2 ^ (31 - i) = t at *
  have h2 := Nat.mul_le_mul (show t ≤ 4294967295 by omega) (show t ≤ 4294967295 by omega)
  rw [← Int.natCast_mul]
  omega

set_option maxHeartbeats 400000 in
theorem root_any (n r : Nat) (w : World) (hn : n < 18446744073709551616) (h : IsR n r) :
    Calls Try.prog 12 #[.int .u64 n] w fun e w' => e = .returned (.int .u32 (r : Int)) ∧ w' = w := by
  have hr := isR_lt n r hn h
  have H : Hid (IsR n r) := h
  clear h
  go_enter Try.func12, Try.ntmps12
  go_wp2
  go_loopw [3, 6] (fun u c wr => ∃ k : Nat, k ≤ 32 ∧ c = .int .i64 k ∧ u = .int .u64 (rtTop r k : Nat) ∧ wr = w) (fun _ c _ => 32 - (intOf c).toNat)
  case atStart => exact ⟨0, by omega, rfl, by rw [show rtTop r 0 = 0 by unfold rtTop; rw [Nat.div_eq_of_lt (by simpa using hr), Nat.zero_mul]]; rfl, rfl⟩
  case round =>
    obtain ⟨k, hk, rfl, rfl, rfl⟩ := hrel
    by_cases hlt : k < 32
    · go_wp2
      · rename_i hle
        rw [rt_wrap r k hr hlt] at hle
        have hbit := (rt_test n r k hlt H.out).1 (Int.ofNat_le.1 hle)
        refine ⟨⟨k + 1, by omega, by go_num, ?_, trivial⟩, by simp [intOf]; omega⟩
        rw [u64_or_top r k hr hlt, rtTop_succ r k hlt, hbit, Nat.one_mul]
      · rename_i hle
        rw [rt_wrap r k hr hlt] at hle
        have hbit : ¬ r / 2 ^ (31 - k) % 2 = 1 := fun c => by
          have := (rt_test n r k hlt H.out).2 c
          omega
        refine ⟨⟨k + 1, by omega, by go_num, ?_, trivial⟩, by simp [intOf]; omega⟩
        rw [rtTop_succ r k hlt, show r / 2 ^ (31 - k) % 2 = 0 by omega, Nat.zero_mul, Nat.add_zero]
    · go_wp2
      go_ret
      have e : k = 32 := by omega
      subst e
      exact ⟨ret_int (by simp [rtTop]; omega), rfl⟩

set_option maxHeartbeats 400000 in
theorem square_any (x : Int) (w : World) (x0 : -2147483648 ≤ x) (x1 : x ≤ 2147483647) :
    Calls Try.prog 14 #[.int .i32 x] w fun e w' => e = .returned (.int .u64 ((x.natAbs * x.natAbs : Nat) : Int)) ∧ w' = w := by
  have hm := mul_rng31 x x x0 x1 x0 x1
  have e : ((x.natAbs * x.natAbs : Nat) : Int) = x * x := Int.natAbs_mul_self
  have hp : 0 ≤ x * x := by rw [← e]; exact Int.natCast_nonneg _
  rw [e]
  clear e
  generalize hr : x * x = m at *
  obtain ⟨m0, m1⟩ := hm
  go_enter Try.func14, Try.ntmps14
  go_wp2
  go_ret
  exact ⟨ret_int (by omega), rfl⟩

/-- the sum of the squares -/
def sq2 (x y : Int) : Nat := x.natAbs * x.natAbs + y.natAbs * y.natAbs
theorem sq2_lt (x y : Int) (x0 : -2147483648 ≤ x) (x1 : x ≤ 2147483647) (y0 : -2147483648 ≤ y) (y1 : y ≤ 2147483647) : sq2 x y ≤ 9223372036854775808 ∧ x.natAbs * x.natAbs ≤ 4611686018427387904 ∧ y.natAbs * y.natAbs ≤ 4611686018427387904 := by
  have h1 := Nat.mul_le_mul (show x.natAbs ≤ 2147483648 by omega) (show x.natAbs ≤ 2147483648 by omega)
  have h2 := Nat.mul_le_mul (show y.natAbs ≤ 2147483648 by omega) (show y.natAbs ≤ 2147483648 by omega)
  unfold sq2
  omega
set_option maxHeartbeats 400000 in
theorem flen_any (x y : Int) (r : Nat) (w : World) (x0 : -2147483648 ≤ x) (x1 : x ≤ 2147483647) (y0 : -2147483648 ≤ y) (y1 : y ≤ 2147483647) (h : IsR (sq2 x y) r) :
    Calls Try.prog 10 #[.int .i32 x, .int .i32 y] w fun e w' => e = .returned (.int .i32 (kp r)) ∧ w' = w := by
  obtain ⟨s0, s1, s2⟩ := sq2_lt x y x0 x1 y0 y1
  have hr := isR_lt _ r (by omega) h
  have H : Hid (IsR (x.natAbs * x.natAbs + y.natAbs * y.natAbs) r) := h
  have c1 := square_any x w x0 x1
  have c2 := square_any y w y0 y1
  have HC : Hid _ := And.intro c1 c2
  clear h c1 c2 s0
  generalize x.natAbs * x.natAbs = m at *
  generalize y.natAbs * y.natAbs = k at *
  go_enter Try.func10, Try.ntmps10
  go_wp2_with fail
  refine HC.out.1.mono ?_
  rintro e w' ⟨rfl, rfl⟩
  go_wp2_with fail
  refine HC.out.2.mono ?_
  rintro e w' ⟨rfl, rfl⟩
  go_wp2_with fail
  refine (root_any (m + k) r _ (by omega) H.out).mono ?_
  rintro e w' ⟨rfl, rfl⟩
  go_wp2_with fail
  refine (keep_any (r : Int) _ (by omega) (by omega)).mono ?_
  rintro e w' ⟨rfl, rfl⟩
  go_wp2
  go_ret
  exact ⟨rfl, rfl⟩
end Go.Proofs.Ytekdjebehieekac
