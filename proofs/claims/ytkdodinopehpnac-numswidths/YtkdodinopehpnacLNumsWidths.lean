/-
  For every lo, hi and more: a wider range takes no fewer bits, one more number in it at most one more, and so many bits hold it: NumsWidths returns true, whatever its arguments, and changes nothing that was there.
-/
import Derived.Test.YtkdodinopehpnacAwb
import Derived.ProofKit
import Derived.OpenShut
namespace Go.Proofs.Ytkdodinopehpnac
open Go.ChangeShapes Go.WideShapes Go.ChangeAt Go.RowKit
set_option linter.unusedVariables false

theorem own : ownKnob Try.prog.godebug = none := by kernel_rfl

theorem lt_bitLen (x : Nat) (h : x < 18446744073709551616) : x < 2 ^ Lib.bitLen x := by
  induction x using Nat.strongRecOn with
  | ind x ih =>
    by_cases h0 : x = 0
    · subst h0; exact Nat.two_pow_pos _
    · rw [Lib.bitLen_half x h0 h, Nat.add_comm, Nat.pow_succ]
      have := ih (x / 2) (by omega) (by omega)
      omega
theorem bitLen_mono (x y : Nat) (h : x ≤ y) (hy : y < 18446744073709551616) : Lib.bitLen x ≤ Lib.bitLen y :=
  Lib.bitLen_le x _ (bitLen_64 y hy) (Nat.lt_of_le_of_lt h (lt_bitLen y hy))
theorem bitLen_more (x y : Nat) (h : y ≤ x + 255) (hx : x < 18446744073709551616) (hy : y < 18446744073709551616) : Lib.bitLen y ≤ max (Lib.bitLen x) 8 + 1 := by
  have h1 := lt_bitLen x hx
  have h2 := bitLen_64 x hx
  have h3 := bitLen_64 y hy
  by_cases hN : max (Lib.bitLen x) 8 = 64
  · omega
  · refine Lib.bitLen_le y _ (by omega) ?_
    have a1 : 2 ^ Lib.bitLen x ≤ 2 ^ max (Lib.bitLen x) 8 := Nat.pow_le_pow_right (by decide) (by omega)
    have a2 : 2 ^ 8 ≤ 2 ^ max (Lib.bitLen x) 8 := Nat.pow_le_pow_right (by decide) (by omega)
    rw [Nat.pow_succ]
    omega

set_option maxHeartbeats 1000000 in
theorem numsWidths_none (lo hi : Int) (k : Nat) (w : World) (h0 : -9223372036854775808 ≤ lo) (h1 : hi ≤ 9223372036854775807) (h2 : lo ≤ 9223372036854775807) (h3 : -9223372036854775808 ≤ hi) (hlt : hi < lo) :
    Calls Try.prog 4 #[.int .i64 lo, .int .i64 hi, .int .u8 k] w fun e w' => e = .returned (.bool true) ∧ Fr Nobody w w' := by
  have hw : wid lo hi = 0 := by unfold wid; rw [if_pos hlt]
  have G : Hid (∀ w, Calls Try.prog 14 #[.int .i64 lo, .int .i64 hi] w fun e w' => e = .returned (.int .i64 0) ∧ w' = w) := by
    have := fun w => width_any lo hi w h0 h1 h2 h3
    rw [hw] at this
    exact this
  clear hw
  go_enter Try.func4, Try.ntmps4
  go_wp2_with fail
  refine (awake2 w).mono ?_
  rintro e w1 ⟨rfl, hf⟩
  have F1 : Hid (Fr Nobody w w1) := hf
  clear hf
  go_wp2_with fail
  refine (G.out _).mono ?_
  rintro e w' ⟨rfl, rfl⟩
  go_wp2
  go_ret
  exact ⟨rfl, F1.out⟩

set_option maxHeartbeats 2000000 in
theorem numsWidths_some (lo hi hh : Int) (k n m : Nat) (w : World) (h0 : -9223372036854775808 ≤ lo) (h1 : hi ≤ 9223372036854775807) (hle : lo ≤ hi) (hk : k ≤ 255)
    (hc : (hi < 9223372036854775807 - (k : Int) ∧ hh = hi + (k : Int)) ∨ (¬ hi < 9223372036854775807 - (k : Int) ∧ hh = hi))
    (G : Hid (∀ w, Calls Try.prog 14 #[.int .i64 lo, .int .i64 hi] w fun e w' => e = .returned (.int .i64 (n : Int)) ∧ w' = w))
    (G2 : Hid (∀ w, Calls Try.prog 14 #[.int .i64 lo, .int .i64 hh] w fun e w' => e = .returned (.int .i64 (m : Int)) ∧ w' = w))
    (hnm : n ≤ m) (hm : (m : Int) ≤ max (n : Int) 8 + 1) (hn : (n < 64 ∧ IntKind.u64.wrap (IntKind.u64.wrap hi - IntKind.u64.wrap lo) < IntKind.u64.wrap (2 ^ n) ∧ IntKind.u64.wrap (hi - IntKind.u64.wrap lo) < IntKind.u64.wrap (2 ^ n)) ∨ (¬ n < 64 ∧ n ≤ 64 ∧ ((n : Int) == 64) = true)) :
    Calls Try.prog 4 #[.int .i64 lo, .int .i64 hi, .int .u8 k] w fun e w' => e = .returned (.bool true) ∧ Fr Nobody w w' := by
  rcases hc with ⟨hc, rfl⟩ | ⟨hc, rfl⟩ <;> rcases hn with ⟨hn1, hn2, hn3⟩ | ⟨hn1, hn2, hn3⟩
  all_goals
    go_enter Try.func4, Try.ntmps4
    go_wp2_with fail
    refine (awake2 w).mono ?_
    rintro e w1 ⟨rfl, hf⟩
    have F1 : Hid (Fr Nobody w w1) := hf
    clear hf
    go_wp2_with fail
    refine (G.out _).mono ?_
    rintro e w' ⟨rfl, rfl⟩
    go_wp2_with fail
    refine (G2.out _).mono ?_
    rintro e w' ⟨rfl, rfl⟩
    go_wp2
    go_ret
    exact ⟨rfl, F1.out⟩

theorem numsWidths_walk (a0 : Int) (w0 : (Lit.int .i64 a0).wf = true) (a1 : Int) (w1 : (Lit.int .i64 a1).wf = true) (a2 : Int) (w2 : (Lit.int .u8 a2).wf = true) (w : World) :
    Calls Try.prog 4 #[.int .i64 a0, .int .i64 a1, .int .u8 a2] w fun e w' => e = .returned (.bool true) ∧ Below w.heap.size w w' := by
  have hx0 : -9223372036854775808 ≤ a0 ∧ a0 ≤ 9223372036854775807 := by simpa [Lit.wf, IntKind.min, IntKind.max, IntKind.signed, IntKind.bits] using w0
  have hx1 : -9223372036854775808 ≤ a1 ∧ a1 ≤ 9223372036854775807 := by simpa [Lit.wf, IntKind.min, IntKind.max, IntKind.signed, IntKind.bits] using w1
  have hx2 : 0 ≤ a2 ∧ a2 ≤ 255 := by simpa [Lit.wf, IntKind.min, IntKind.max, IntKind.signed, IntKind.bits] using w2
  obtain ⟨k, rfl⟩ := Int.eq_ofNat_of_zero_le hx2.1
  have fin : Calls Try.prog 4 #[.int .i64 a0, .int .i64 a1, .int .u8 k] w fun e w' => e = .returned (.bool true) ∧ Fr Nobody w w' := by
    by_cases hlt : a1 < a0
    · exact numsWidths_none a0 a1 k w hx0.1 hx1.2 hx0.2 hx1.1 hlt
    · have hd : (a1 - a0).toNat < 18446744073709551616 := by omega
      obtain ⟨hh, hc, hb1, hb2⟩ : ∃ hh : Int, ((a1 < 9223372036854775807 - (k : Int) ∧ hh = a1 + (k : Int)) ∨ (¬ a1 < 9223372036854775807 - (k : Int) ∧ hh = a1)) ∧ hh ≤ 9223372036854775807 ∧ a1 ≤ hh ∧ hh ≤ a1 + 255 := by
        by_cases c : a1 < 9223372036854775807 - (k : Int)
        · exact ⟨_, .inl ⟨c, rfl⟩, by omega, by omega, by omega⟩
        · exact ⟨_, .inr ⟨c, rfl⟩, by omega, by omega, by omega⟩
      have hd2 : (hh - a0).toNat < 18446744073709551616 := by omega
      have e1 : wid a0 a1 = Lib.bitLen (a1 - a0).toNat := by unfold wid; rw [if_neg hlt]
      have e2 : wid a0 hh = Lib.bitLen (hh - a0).toNat := by unfold wid; rw [if_neg (by omega)]
      have b1 := bitLen_mono (a1 - a0).toNat (hh - a0).toNat (by omega) hd2
      have b2 := bitLen_more (a1 - a0).toNat (hh - a0).toNat (by omega) hd hd2
      have b3 := bitLen_64 _ hd
      have b4 := lt_bitLen _ hd
      refine numsWidths_some a0 a1 hh k (wid a0 a1) (wid a0 hh) w hx0.1 hx1.2 (by omega) (by omega) hc (fun w => width_any a0 a1 w hx0.1 hx1.2 hx0.2 hx1.1) (fun w => width_any a0 hh w hx0.1 hb1 hx0.2 (by omega)) (by omega) (by omega) ?_
      rw [e1]
      by_cases h64 : Lib.bitLen (a1 - a0).toNat < 64
      · left
        refine ⟨h64, ?_⟩
        have hp : ((2 : Int) ^ Lib.bitLen (a1 - a0).toNat) = ((2 ^ Lib.bitLen (a1 - a0).toNat : Nat) : Int) := by simp
        have hle : 2 ^ Lib.bitLen (a1 - a0).toNat ≤ 2 ^ 63 := Nat.pow_le_pow_right (by decide) (by omega)
        simp only [wrapU, hp]
        generalize 2 ^ Lib.bitLen (a1 - a0).toNat = q at *
        omega
      · right
        refine ⟨h64, b3, ?_⟩
        rw [beq_iff_eq]; omega
  refine fin.mono ?_
  rintro e w' ⟨rfl, hf⟩
  exact ⟨rfl, hf.below (Nat.le_refl _) (fun _ _ => id)⟩

theorem numsWidths_lifted (os : Os) (started : os.Started) (H : Type) (enc : TypeId × Value → H) :
    ReturnsInHanded {} Try.checked os 4 .any (Rows.numsWidthsSpec.pre6 enc Try.prog Try.f4 Rows.numsWidthsRow.domain false) (Rows.numsWidthsSpec.post enc Try.prog Try.f4 false true false false) := by
  refine returnsInHanded_of_change (C := Try.checked) own started (by kernel_rfl) Try.func4
    (ChangeSpec.witness6 (enc := enc) (C := Try.checked) false ⟨#[], #[.int .i64 0, .int .i64 0, .int .u8 0], []⟩ 8 (by kernel_rfl) (by kernel_rfl) (by kernel_rfl) (by kernel_rfl)) ?_
  intro W base args ds gs before hval0 hW hcnd _
  have hval : ∀ (j : Nat) t v, Try.f4.params[j]? = some t → args[j]? = some v → Value.okWide Try.prog W .any base t v := hval0
  have hW' := hW
  obtain ⟨p, q, hA0, hV, rfl, hfz, hnd⟩ := hW
  have hA : DataW.TrodAll enc Try.prog W 0 (fun _ => true) true Try.f4.params.toList args.toList ds p := hA0
  rw [Try.params4] at hA hval
  obtain ⟨v0, vs0, d0, ds0, p0, q0, hargs, rfl, rfl, h0, r0⟩ := trodAll_cons hA
  obtain ⟨v1, vs1, d1, ds1, p1, q1, rfl, rfl, rfl, h1, r1⟩ := trodAll_cons r0
  obtain ⟨v2, vs2, d2, ds2, p2, q2, rfl, rfl, rfl, h2, r2⟩ := trodAll_cons r1
  obtain ⟨rfl, rfl, rfl⟩ := trodAll_nil r2
  obtain rfl : args = #[v0, v1, v2] := by cases args; simp_all
  obtain ⟨rfl, rfl⟩ := trodVars_none hV
  obtain ⟨a0, rfl, rfl, rfl, w0⟩ := open_int Try.underlying2 (hval 0 2 v0 rfl rfl) h0
  obtain ⟨a1, rfl, rfl, rfl, w1⟩ := open_int Try.underlying2 (hval 1 2 v1 rfl rfl) h1
  obtain ⟨a2, rfl, rfl, rfl, w2⟩ := open_int Try.underlying5 (hval 2 5 v2 rfl rfl) h2
  clear hA0 hval0
  refine (numsWidths_walk a0 w0 a1 w1 a2 w2 W).mono fun e W' ⟨he, bel⟩ => ?_
  subst he
  exact ⟨_, rfl, _, _, _, [], _, [], hW', trodAll_mk1 (shut_bool Try.underlying4 _), (trodAll_cons_mk (shut_int Try.underlying2 w0) (trodAll_cons_mk (shut_int Try.underlying2 w1) (trodAll_cons_mk (shut_int Try.underlying5 w2) trodAll_mk0))), rfl, bel.frame _, fun h => by cases h⟩

theorem numsWidths_holds : Rows.NumsWidthsSaid :=
  OpenClaim.holds_of_wide 4 Try.f4 rfl rfl rfl rfl rfl rfl rfl ⟨rfl, rfl, rfl, rfl, rfl⟩ rfl rfl rfl rfl rfl (by kernel_rfl) Try.func4 (by kernel_rfl)
    (of_decide_eq_true (by kernel_rfl)) (by unfold Func.isWrapper; first | (rw [if_pos (by decide +kernel)]; kernel_rfl) | (rw [if_neg (by decide +kernel)]; exact ⟨rfl, rfl⟩))
    (fun os started H enc _ => numsWidths_lifted os started H enc)


end Go.Proofs.Ytkdodinopehpnac
