/-
  From and Clamp of package fixed, and the document's answers: Keep, Over, Mul, Div, From, Floor, Root, Len.
-/
import Derived.Test.YtekdjebehieekabFb
namespace Go.Proofs.Ytekdjebehieekab
open Go.RowKit
set_option linter.unusedVariables false

set_option maxHeartbeats 400000 in
theorem rkeep_any (n : Int) (w : World) (h0 : -9223372036854775808 ≤ n) (h1 : n ≤ 9223372036854775807) :
    Calls Try.prog 10 #[.int .i64 n] w fun e w' => e = .returned (.int .i32 (kp n)) ∧ w' = w := by
  unfold kp
  by_cases c0 : n < -2147483648
  · rw [if_pos c0]
    go_enter Try.func10, Try.ntmps10
    go_wp2
    go_ret
    exact ⟨rfl, rfl⟩
  · rw [if_neg c0]
    by_cases c1 : 2147483647 < n
    · rw [if_pos c1]
      go_enter Try.func10, Try.ntmps10
      go_wp2
      go_ret
      exact ⟨rfl, rfl⟩
    · rw [if_neg c1]
      go_enter Try.func10, Try.ntmps10
      go_wp2
      go_ret
      exact ⟨rfl, rfl⟩

theorem tdiv_pp (a b : Int) (ha : 0 ≤ a) : a.tdiv b = a / b := Int.tdiv_eq_ediv_of_nonneg ha
theorem tdiv_np (a b : Int) (ha : 0 ≤ a) : (-a).tdiv b = -(a / b) := by rw [Int.neg_tdiv, Int.tdiv_eq_ediv_of_nonneg ha]
theorem tdiv_pn (a b : Int) (ha : 0 ≤ a) : a.tdiv (-b) = -(a / b) := by rw [Int.tdiv_neg, Int.tdiv_eq_ediv_of_nonneg ha]
theorem tdiv_nn (a b : Int) (ha : 0 ≤ a) : (-a).tdiv (-b) = a / b := by rw [Int.tdiv_neg, Int.neg_tdiv, Int.neg_neg, Int.tdiv_eq_ediv_of_nonneg ha]
theorem ediv_rng (a b : Int) (ha : 0 ≤ a) (hb : 0 < b) : 0 ≤ a / b ∧ a / b ≤ a :=
  ⟨Int.ediv_nonneg ha (by omega), Int.ediv_le_self _ ha⟩

set_option maxHeartbeats 400000 in
theorem over_any (a b : Int) (w : World) (a0 : -4611686018427387904 ≤ a) (a1 : a ≤ 4611686018427387904) (b0 : -4611686018427387904 ≤ b) (b1 : b ≤ 4611686018427387904) (hb : b ≠ 0) :
    Calls Try.prog 26 #[.int .i64 a, .int .i64 b] w fun e w' => e = .returned (.int .i64 (a.tdiv b)) ∧ w' = w := by
  by_cases ca : a < 0
  · obtain ⟨d, rfl⟩ : ∃ d, a = -d := ⟨-a, by omega⟩
    have hd : 0 < d := by omega
    by_cases cb : b < 0
    · obtain ⟨c, rfl⟩ : ∃ c, b = -c := ⟨-b, by omega⟩
      have hc : 0 < c := by omega
      rw [tdiv_nn d c (by omega)]
      obtain ⟨q0, q1⟩ := ediv_rng d c (by omega) (by omega)
      have e := tdiv_pp d c (by omega)
      go_enter Try.func26, Try.ntmps26
      go_wp2
      go_ret
      exact ⟨rfl, rfl⟩
    · generalize b = c at *
      have hc : 0 < c := by omega
      rw [tdiv_np d c (by omega)]
      obtain ⟨q0, q1⟩ := ediv_rng d c (by omega) (by omega)
      have e := tdiv_pp d c (by omega)
      go_enter Try.func26, Try.ntmps26
      go_wp2
      go_ret
      exact ⟨rfl, rfl⟩
  · generalize a = d at *
    have hd : 0 ≤ d := by omega
    by_cases cb : b < 0
    · obtain ⟨c, rfl⟩ : ∃ c, b = -c := ⟨-b, by omega⟩
      have hc : 0 < c := by omega
      rw [tdiv_pn d c (by omega)]
      obtain ⟨q0, q1⟩ := ediv_rng d c (by omega) (by omega)
      have e := tdiv_pp d c (by omega)
      go_enter Try.func26, Try.ntmps26
      go_wp2
      go_ret
      exact ⟨rfl, rfl⟩
    · generalize b = c at *
      have hc : 0 < c := by omega
      rw [tdiv_pp d c (by omega)]
      obtain ⟨q0, q1⟩ := ediv_rng d c (by omega) (by omega)
      have e := tdiv_pp d c (by omega)
      go_enter Try.func26, Try.ntmps26
      go_wp2
      go_ret
      exact ⟨rfl, rfl⟩

set_option maxHeartbeats 400000 in
theorem rmul_any (a b : Int) (w : World) (a0 : -2147483648 ≤ a) (a1 : a ≤ 2147483647) (b0 : -2147483648 ≤ b) (b1 : b ≤ 2147483647) :
    Calls Try.prog 15 #[.int .i32 a, .int .i32 b] w fun e w' => e = .returned (.int .i32 (kp ((a * b).tdiv 256))) ∧ w' = w := by
  have hm := mul_rng31 a b a0 a1 b0 b1
  generalize hr : a * b = m at *
  obtain ⟨m0, m1⟩ := hm
  obtain ⟨t0, t1⟩ := tdiv_rng m 256 4611686018427387904 m0 m1
  go_enter Try.func15, Try.ntmps15
  go_wp2_with fail
  refine (over_any m 256 w m0 m1 (by decide) (by decide) (by decide)).mono ?_
  rintro e w' ⟨rfl, rfl⟩
  go_wp2_with fail
  refine (rkeep_any _ _ (by omega) (by omega)).mono ?_
  rintro e w' ⟨rfl, rfl⟩
  go_wp2
  go_ret
  exact ⟨rfl, rfl⟩

set_option maxHeartbeats 400000 in
theorem rdiv_zero (a : Int) (w : World) (a0 : -2147483648 ≤ a) (a1 : a ≤ 2147483647) :
    Calls Try.prog 13 #[.int .i32 a, .int .i32 0] w fun e w' => e = .returned (.tuple #[.int .i32 0, .int .i64 1]) ∧ w' = w := by
  go_enter Try.func13, Try.ntmps13
  go_wp2
  go_ret2
  exact ⟨rfl, rfl⟩
set_option maxHeartbeats 400000 in
theorem rdiv_any (a b : Int) (w : World) (a0 : -2147483648 ≤ a) (a1 : a ≤ 2147483647) (b0 : -2147483648 ≤ b) (b1 : b ≤ 2147483647) (hb : b ≠ 0) :
    Calls Try.prog 13 #[.int .i32 a, .int .i32 b] w fun e w' => e = .returned (.tuple #[.int .i32 (kp ((a * 256).tdiv b)), .int .i64 0]) ∧ w' = w := by
  obtain ⟨t0, t1⟩ := tdiv_rng (a * 256) b 1099511627776 (by omega) (by omega)
  go_enter Try.func13, Try.ntmps13
  go_wp2_with fail
  refine (over_any _ b w (by omega) (by omega) (by omega) (by omega) hb).mono ?_
  rintro e w' ⟨rfl, rfl⟩
  go_wp2_with fail
  refine (rkeep_any _ _ (by omega) (by omega)).mono ?_
  rintro e w' ⟨rfl, rfl⟩
  go_wp2
  go_ret2
  exact ⟨rfl, rfl⟩

set_option maxHeartbeats 400000 in
theorem rfloor_any (a : Int) (w : World) (a0 : -2147483648 ≤ a) (a1 : a ≤ 2147483647) :
    Calls Try.prog 19 #[.int .i32 a] w fun e w' => e = .returned (.int .i64 (a / 256)) ∧ w' = w := by
  by_cases h : a < 0
  · have hd := tdiv_neg256 a h
    by_cases c : a % 256 = 0
    · have hd' : a.tdiv 256 = a / 256 := by omega
      have HC : Hid (a.tdiv 256 = a / 256) := hd'
      have hn : (decide (a < a / 256 * 256)) = false := by simp; omega
      have hn' : a / 256 * 256 = a := by omega
      clear hd hd' hn
      go_enter Try.func19, Try.ntmps19
      go_wp2_with fail
      refine (over_any a 256 w (by omega) (by omega) (by decide) (by decide) (by decide)).mono ?_
      rintro e w' ⟨rfl, rfl⟩
      rw [HC.out]
      go_wp2
      go_ret
      exact ⟨rfl, rfl⟩
    · have hd' : a.tdiv 256 = a / 256 + 1 := by omega
      have HC : Hid (a.tdiv 256 = a / 256 + 1) := hd'
      clear hd hd'
      go_enter Try.func19, Try.ntmps19
      go_wp2_with fail
      refine (over_any a 256 w (by omega) (by omega) (by decide) (by decide) (by decide)).mono ?_
      rintro e w' ⟨rfl, rfl⟩
      rw [HC.out]
      go_wp2
      go_ret
      exact ⟨ret_int (by omega), rfl⟩
  · have HC : Hid (a.tdiv 256 = a / 256) := Int.tdiv_eq_ediv_of_nonneg (by omega)
    go_enter Try.func19, Try.ntmps19
    go_wp2_with fail
    refine (over_any a 256 w (by omega) (by omega) (by decide) (by decide) (by decide)).mono ?_
    rintro e w' ⟨rfl, rfl⟩
    rw [HC.out]
    go_wp2
    go_ret
    exact ⟨rfl, rfl⟩

/-- a plain number as a fixed one -/
def frm (n : Int) : Int := if 8388607 < n then 2147483647 else if n < -8388608 then -2147483648 else n * 256
theorem frm_kp (n : Int) : frm n = kp (kp n * 256) := by
  unfold frm kp
  by_cases c0 : n < -2147483648
  · rw [if_pos c0, if_neg (by omega), if_pos (by omega), if_pos (by omega)]
  · rw [if_neg c0]
    by_cases c1 : 2147483647 < n
    · rw [if_pos c1, if_pos (by omega), if_neg (by omega), if_pos (by omega)]
    · rw [if_neg c1]
      by_cases c2 : 8388607 < n
      · rw [if_pos c2, if_neg (by omega), if_pos (by omega)]
      · rw [if_neg c2]
        by_cases c3 : n < -8388608
        · rw [if_pos c3, if_pos (by omega)]
        · rw [if_neg c3, if_neg (by omega), if_neg (by omega)]
set_option maxHeartbeats 400000 in
theorem from_any (n : Int) (w : World) (h0 : -9223372036854775808 ≤ n) (h1 : n ≤ 9223372036854775807) :
    Calls Try.prog 16 #[.int .i64 n] w fun e w' => e = .returned (.int .i32 (frm n)) ∧ w' = w := by
  have HF : Hid _ := frm_kp n
  have hk := kp_rng n
  go_enter Try.func16, Try.ntmps16
  go_wp2_with fail
  refine (keep_any n w h0 h1).mono ?_
  rintro e w' ⟨rfl, rfl⟩
  go_wp2_with fail
  refine (keep_any _ _ (by omega) (by omega)).mono ?_
  rintro e w' ⟨rfl, rfl⟩
  go_wp2
  go_ret
  exact ⟨ret_int HF.out.symm, rfl⟩
set_option maxHeartbeats 400000 in
theorem rfrom_any (n : Int) (w : World) (h0 : -9223372036854775808 ≤ n) (h1 : n ≤ 9223372036854775807) :
    Calls Try.prog 17 #[.int .i64 n] w fun e w' => e = .returned (.int .i32 (frm n)) ∧ w' = w := by
  unfold frm
  by_cases c0 : 8388607 < n
  · rw [if_pos c0]
    go_enter Try.func17, Try.ntmps17
    go_wp2
    go_ret
    exact ⟨rfl, rfl⟩
  · rw [if_neg c0]
    by_cases c1 : n < -8388608
    · rw [if_pos c1]
      go_enter Try.func17, Try.ntmps17
      go_wp2
      go_ret
      exact ⟨rfl, rfl⟩
    · rw [if_neg c1]
      go_enter Try.func17, Try.ntmps17
      go_wp2
      go_ret
      exact ⟨rfl, rfl⟩

def clp (a lo hi : Int) : Int := if a < lo then lo else if hi < a then hi else a
set_option maxHeartbeats 400000 in
theorem clamp_any (a lo hi : Int) (w : World) (a0 : -2147483648 ≤ a) (a1 : a ≤ 2147483647) (l0 : -2147483648 ≤ lo) (l1 : lo ≤ 2147483647) (h0 : -2147483648 ≤ hi) (h1 : hi ≤ 2147483647) :
    Calls Try.prog 20 #[.int .i32 a, .int .i32 lo, .int .i32 hi] w fun e w' => e = .returned (.int .i32 (clp a lo hi)) ∧ w' = w := by
  unfold clp
  by_cases c0 : a < lo
  · rw [if_pos c0]
    go_enter Try.func20, Try.ntmps20
    go_wp2
    go_ret
    exact ⟨rfl, rfl⟩
  · rw [if_neg c0]
    by_cases c1 : hi < a
    · rw [if_pos c1]
      go_enter Try.func20, Try.ntmps20
      go_wp2
      go_ret
      exact ⟨rfl, rfl⟩
    · rw [if_neg c1]
      go_enter Try.func20, Try.ntmps20
      go_wp2
      go_ret
      exact ⟨rfl, rfl⟩

theorem mid_test (n r m : Nat) (h : IsR n r) : (m * m ≤ n ↔ m ≤ r) := by
  constructor
  · intro c
    refine Nat.le_of_not_lt fun d => ?_
    have := Nat.mul_le_mul (show r + 1 ≤ _ from d) (show r + 1 ≤ _ from d)
    have := h.2
    omega
  · intro c
    exact Nat.le_trans (Nat.mul_le_mul c c) h.1
theorem mid_wrap (lo d : Nat) (h : (lo + (lo + d)) / 2 < 4294967296) : IntKind.u64.wrap (((lo : Int) + ((lo : Int) + (d : Int))) / 2 * (((lo : Int) + ((lo : Int) + (d : Int))) / 2)) = (((lo + (lo + d)) / 2 * ((lo + (lo + d)) / 2) : Nat) : Int) := by
  have e : ((lo : Int) + ((lo : Int) + (d : Int))) / 2 = (((lo + (lo + d)) / 2 : Nat) : Int) := by omega
  rw [e, IntKind.wrap_u64, ← Int.natCast_mul]
  generalize (lo + (lo + d)) / 2 = t at *
  have h2 := Nat.mul_le_mul (show t ≤ 4294967295 by omega) (show t ≤ 4294967295 by omega)
  omega
set_option maxHeartbeats 400000 in
theorem rroot_any (n r : Nat) (w : World) (hn : n < 18446744073709551616) (h : IsR n r) :
    Calls Try.prog 22 #[.int .u64 n] w fun e w' => e = .returned (.int .u32 (r : Int)) ∧ w' = w := by
  have hr := isR_lt n r hn h
  have H : Hid (IsR n r) := h
  clear h
  go_enter Try.func22, Try.ntmps22
  go_wp2
  go_loopw [3, 4] (fun u c wr => ∃ lo hi : Nat, lo ≤ r ∧ r < hi ∧ hi ≤ 4294967296 ∧ u = .int .u64 lo ∧ c = .int .u64 hi ∧ wr = w) (fun u c _ => (intOf c).toNat - (intOf u).toNat)
  case atStart => exact ⟨0, 4294967296, by omega, hr, by omega, rfl, rfl, rfl⟩
  case round =>
    obtain ⟨lo, hi, h1, h2, h3, rfl, rfl, rfl⟩ := hrel
    obtain ⟨d, rfl⟩ := Nat.exists_eq_add_of_le (show lo ≤ hi by omega)
    by_cases hlt : 1 < d
    · go_wp2
      · rename_i hle
        rw [mid_wrap lo d (by omega)] at hle
        have hm := (mid_test n r _ H.out).1 (Int.ofNat_le.1 hle)
        exact ⟨⟨(lo + (lo + d)) / 2, lo + d, hm, h2, h3, by go_num, rfl, trivial⟩, by simp only [intOf]; omega⟩
      · rename_i hle
        rw [mid_wrap lo d (by omega)] at hle
        have hm : ¬ (lo + (lo + d)) / 2 ≤ r := fun c => by have := (mid_test n r _ H.out).2 c; omega
        exact ⟨⟨lo, (lo + (lo + d)) / 2, h1, by omega, by omega, rfl, by go_num, trivial⟩, by simp only [intOf]; omega⟩
    · go_wp2
      go_ret
      exact ⟨ret_int (by omega), rfl⟩

set_option maxHeartbeats 400000 in
theorem rlen_any (x y : Int) (r : Nat) (w : World) (x0 : -2147483648 ≤ x) (x1 : x ≤ 2147483647) (y0 : -2147483648 ≤ y) (y1 : y ≤ 2147483647) (h : IsR (sq2 x y) r) :
    Calls Try.prog 24 #[.int .i32 x, .int .i32 y] w fun e w' => e = .returned (.int .i32 (kp r)) ∧ w' = w := by
  obtain ⟨s0, s1, s2⟩ := sq2_lt x y x0 x1 y0 y1
  have hr := isR_lt _ r (by omega) h
  have H : Hid (IsR (x.natAbs * x.natAbs + y.natAbs * y.natAbs) r) := h
  have e1 : ((x.natAbs * x.natAbs : Nat) : Int) = x * x := Int.natAbs_mul_self
  have e2 : ((y.natAbs * y.natAbs : Nat) : Int) = y * y := Int.natAbs_mul_self
  clear h s0
  generalize x.natAbs * x.natAbs = m at *
  generalize y.natAbs * y.natAbs = k at *
  have e1' := e1.symm
  have e2' := e2.symm
  clear e1 e2
  go_enter Try.func24, Try.ntmps24
  go_wp2_with fail
  refine (rroot_any (m + k) r _ (by omega) H.out).mono ?_
  rintro e w' ⟨rfl, rfl⟩
  go_wp2_with fail
  refine (rkeep_any (r : Int) _ (by omega) (by omega)).mono ?_
  rintro e w' ⟨rfl, rfl⟩
  go_wp2
  go_ret
  exact ⟨rfl, rfl⟩
end Go.Proofs.Ytekdjebehieekab
