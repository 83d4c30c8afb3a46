/-
  For every n, m and v: Zig and Zag are the document's, undo each other, and a smaller number of one sign never has a greater Zig: NumsSigns returns true, whatever its arguments, and changes nothing that was there.
-/
import Derived.Test.YtkdodinopehpnabAwb
import Derived.ProofKit
import Derived.OpenShut
namespace Go.Proofs.Ytkdodinopehpnab
open Go.ChangeShapes Go.WideShapes Go.ChangeAt Go.RowKit
set_option linter.unusedVariables false

theorem own : ownKnob Try.prog.godebug = none := by kernel_rfl

set_option maxHeartbeats 400000 in
theorem rzig_any (n : Int) (w : World) (h0 : -9223372036854775808 ≤ n) (h1 : n ≤ 9223372036854775807) :
    Calls Try.prog 14 #[.int .i64 n] w fun e w' => e = .returned (.int .u64 (zig n : Nat)) ∧ w' = w := by
  by_cases h : n < 0
  · have e : zig n = (-2 * n - 1).toNat := by unfold zig; rw [if_pos h]
    rw [e]
    clear e
    go_enter Try.func14, Try.ntmps14
    go_wp2
    go_ret
    exact ⟨ret_int (by omega), rfl⟩
  · have e : zig n = (2 * n).toNat := by unfold zig; rw [if_neg h]
    have h' : 0 ≤ n := by omega
    rw [e]
    clear e
    go_enter Try.func14, Try.ntmps14
    go_wp2
    go_ret
    exact ⟨ret_int (by omega), rfl⟩
set_option maxHeartbeats 400000 in
theorem rzag_any (v : Nat) (w : World) (hv : v < 18446744073709551616) :
    Calls Try.prog 26 #[.int .u64 v] w fun e w' => e = .returned (.int .i64 (zag v)) ∧ w' = w := by
  by_cases h : v % 2 = 0
  · have e : zag v = (v : Int) / 2 := by unfold zag; rw [if_pos h]
    have hm : ((v : Int) % 2 == 1) = false := by simp; omega
    rw [e]
    clear e h
    go_enter Try.func26, Try.ntmps26
    go_wp2
    go_ret
    exact ⟨ret_int (by omega), rfl⟩
  · have e : zag v = -1 - (v : Int) / 2 := by unfold zag; rw [if_neg h]
    have hm : ((v : Int) % 2 == 1) = true := by simp; omega
    rw [e]
    clear e h
    go_enter Try.func26, Try.ntmps26
    go_wp2
    go_ret
    exact ⟨ret_int (by omega), rfl⟩

/-- the walk as far as the tests of the order -/
theorem zig_le (n m : Int) (h : (0 ≤ n ∧ 0 ≤ m ∧ n ≤ m) ∨ (n < 0 ∧ m < 0 ∧ m ≤ n)) : zig n ≤ zig m := by
  unfold zig
  rcases h with ⟨a, b, c⟩ | ⟨a, b, c⟩
  · rw [if_neg (by omega), if_neg (by omega)]; omega
  · rw [if_pos a, if_pos b]; omega

set_option maxHeartbeats 2000000 in
theorem numsSigns_walk0 (n m : Int) (v : Nat) (w : World) (hn0 : -9223372036854775808 ≤ n) (hn1 : n ≤ 9223372036854775807) (hm0 : -9223372036854775808 ≤ m) (hm1 : m ≤ 9223372036854775807) (hv : v < 18446744073709551616)
    (zn zm : Nat) (hz : Hid (zn = zig n ∧ zm = zig m)) (zv : Int) (hzv : Hid (zv = zag v))
    (hc : (0 ≤ n ∧ 0 ≤ m ∧ n ≤ m ∧ zn ≤ zm) ∨ (0 ≤ n ∧ 0 ≤ m ∧ m < n) ∨ (0 ≤ n ∧ m < 0) ∨ (n < 0 ∧ m < 0 ∧ m ≤ n ∧ zn ≤ zm) ∨ (n < 0 ∧ m < 0 ∧ n < m) ∨ (n < 0 ∧ 0 ≤ m)) :
    Calls Try.prog 7 #[.int .i64 n, .int .i64 m, .int .u64 v] w fun e w' => e = .returned (.bool true) ∧ Fr Nobody w w' := by
  have g1 := fun w => rzig_any n w hn0 hn1
  have g2 := fun w => zig_any n w hn0 hn1
  have g3 := fun w => zig_any m w hm0 hm1
  have g4 := fun w => rzag_any v w hv
  have g5 := fun w => zag_any v w hv
  have g6 := fun w => zag_any (zig n) w (zig_lt n hn0 hn1)
  have g7 := fun w => zig_any (zag v) w (zag_rng v hv).1 (zag_rng v hv).2
  rw [zag_zig] at g6
  rw [zig_zag] at g7
  rw [← hz.out.1] at g1 g2 g6
  rw [← hz.out.2] at g3
  rw [← hzv.out] at g4 g5 g7
  have tn : ((zn : Int) != (zn : Int)) = false := by simp
  have tv : (zv != zv) = false := by simp
  have tnn : (n != n) = false := by simp
  have tvv : ((v : Int) != (v : Int)) = false := by simp
  have G : Hid _ := And.intro g1 (And.intro g2 (And.intro g3 (And.intro g4 (And.intro g5 (And.intro g6 g7)))))
  clear g1 g2 g3 g4 g5 g6 g7 hz hzv
  rcases hc with ⟨c1, c2, c3, c4⟩ | ⟨c1, c2, c3⟩ | ⟨c1, c2⟩ | ⟨c1, c2, c3, c4⟩ | ⟨c1, c2, c3⟩ | ⟨c1, c2⟩
  all_goals
    go_enter Try.func7, Try.ntmps7
    go_wp2_with fail
    refine (awake2 w).mono ?_
    rintro e w1 ⟨rfl, hf⟩
    have F1 : Hid (Fr Nobody w w1) := hf
    clear hf
    go_wp2_with fail
    refine (G.out.2.1 _).mono ?_
    rintro e w' ⟨rfl, rfl⟩
    go_wp2_with fail
    refine (G.out.1 _).mono ?_
    rintro e w' ⟨rfl, rfl⟩
    go_wp2_with fail
    refine (G.out.2.2.2.2.1 _).mono ?_
    rintro e w' ⟨rfl, rfl⟩
    go_wp2_with fail
    refine (G.out.2.2.2.1 _).mono ?_
    rintro e w' ⟨rfl, rfl⟩
    go_wp2_with fail
    refine (G.out.2.1 _).mono ?_
    rintro e w' ⟨rfl, rfl⟩
    go_wp2_with fail
    refine (G.out.2.2.2.2.2.1 _).mono ?_
    rintro e w' ⟨rfl, rfl⟩
    go_wp2_with fail
    refine (G.out.2.2.2.2.1 _).mono ?_
    rintro e w' ⟨rfl, rfl⟩
    go_wp2_with fail
    refine (G.out.2.2.2.2.2.2 _).mono ?_
    rintro e w' ⟨rfl, rfl⟩
    first
      | (go_wp2
         go_ret
         exact ⟨rfl, F1.out⟩)
      | (have c5 : (zn : Int) ≤ (zm : Int) := by omega
         go_wp2_with fail
         refine (G.out.2.1 _).mono ?_
         rintro e w' ⟨rfl, rfl⟩
         go_wp2_with fail
         refine (G.out.2.2.1 _).mono ?_
         rintro e w' ⟨rfl, rfl⟩
         go_wp2
         go_ret
         exact ⟨rfl, F1.out⟩)

theorem numsSigns_walk (a0 : Int) (w0 : (Lit.int .i64 a0).wf = true) (a1 : Int) (w1 : (Lit.int .i64 a1).wf = true) (a2 : Int) (w2 : (Lit.int .u64 a2).wf = true) (w : World) :
    Calls Try.prog 7 #[.int .i64 a0, .int .i64 a1, .int .u64 a2] w fun e w' => e = .returned (.bool true) ∧ Below w.heap.size w w' := by
  have hx0 : -9223372036854775808 ≤ a0 ∧ a0 ≤ 9223372036854775807 := by simpa [Lit.wf, IntKind.min, IntKind.max, IntKind.signed, IntKind.bits] using w0
  have hx1 : -9223372036854775808 ≤ a1 ∧ a1 ≤ 9223372036854775807 := by simpa [Lit.wf, IntKind.min, IntKind.max, IntKind.signed, IntKind.bits] using w1
  have hx2 : 0 ≤ a2 ∧ a2 ≤ 18446744073709551615 := by simpa [Lit.wf, IntKind.min, IntKind.max, IntKind.signed, IntKind.bits] using w2
  obtain ⟨v, rfl⟩ := Int.eq_ofNat_of_zero_le hx2.1
  refine (numsSigns_walk0 a0 a1 v w hx0.1 hx0.2 hx1.1 hx1.2 (by omega) (zig a0) (zig a1) ⟨rfl, rfl⟩ (zag v) rfl ?_).mono ?_
  · by_cases c1 : 0 ≤ a0 <;> by_cases c2 : 0 ≤ a1
    · by_cases c3 : a0 ≤ a1
      · left; exact ⟨c1, c2, c3, zig_le _ _ (.inl ⟨c1, c2, c3⟩)⟩
      · right; left; omega
    · right; right; left; omega
    · right; right; right; right; right; omega
    · by_cases c3 : a1 ≤ a0
      · right; right; right; left; exact ⟨by omega, by omega, c3, zig_le _ _ (.inr ⟨by omega, by omega, c3⟩)⟩
      · right; right; right; right; left; omega
  · rintro e w' ⟨rfl, hf⟩
    exact ⟨rfl, hf.below (Nat.le_refl _) (fun _ _ => id)⟩

theorem numsSigns_lifted (os : Os) (started : os.Started) (H : Type) (enc : TypeId × Value → H) :
    ReturnsInHanded {} Try.checked os 7 .any (Rows.numsSignsSpec.pre6 enc Try.prog Try.f7 Rows.numsSignsRow.domain false) (Rows.numsSignsSpec.post enc Try.prog Try.f7 false true false false) := by
  refine returnsInHanded_of_change (C := Try.checked) own started (by kernel_rfl) Try.func7
    (ChangeSpec.witness6 (enc := enc) (C := Try.checked) false ⟨#[], #[.int .i64 0, .int .i64 0, .int .u64 0], []⟩ 8 (by kernel_rfl) (by kernel_rfl) (by kernel_rfl) (by kernel_rfl)) ?_
  intro W base args ds gs before hval0 hW hcnd _
  have hval : ∀ (j : Nat) t v, Try.f7.params[j]? = some t → args[j]? = some v → Value.okWide Try.prog W .any base t v := hval0
  have hW' := hW
  obtain ⟨p, q, hA0, hV, rfl, hfz, hnd⟩ := hW
  have hA : DataW.TrodAll enc Try.prog W 0 (fun _ => true) true Try.f7.params.toList args.toList ds p := hA0
  rw [Try.params7] at hA hval
  obtain ⟨v0, vs0, d0, ds0, p0, q0, hargs, rfl, rfl, h0, r0⟩ := trodAll_cons hA
  obtain ⟨v1, vs1, d1, ds1, p1, q1, rfl, rfl, rfl, h1, r1⟩ := trodAll_cons r0
  obtain ⟨v2, vs2, d2, ds2, p2, q2, rfl, rfl, rfl, h2, r2⟩ := trodAll_cons r1
  obtain ⟨rfl, rfl, rfl⟩ := trodAll_nil r2
  obtain rfl : args = #[v0, v1, v2] := by cases args; simp_all
  obtain ⟨rfl, rfl⟩ := trodVars_none hV
  obtain ⟨a0, rfl, rfl, rfl, w0⟩ := open_int Try.underlying2 (hval 0 2 v0 rfl rfl) h0
  obtain ⟨a1, rfl, rfl, rfl, w1⟩ := open_int Try.underlying2 (hval 1 2 v1 rfl rfl) h1
  obtain ⟨a2, rfl, rfl, rfl, w2⟩ := open_int Try.underlying23 (hval 2 23 v2 rfl rfl) h2
  clear hA0 hval0
  refine (numsSigns_walk a0 w0 a1 w1 a2 w2 W).mono fun e W' ⟨he, bel⟩ => ?_
  subst he
  exact ⟨_, rfl, _, _, _, [], _, [], hW', trodAll_mk1 (shut_bool Try.underlying4 _), (trodAll_cons_mk (shut_int Try.underlying2 w0) (trodAll_cons_mk (shut_int Try.underlying2 w1) (trodAll_cons_mk (shut_int Try.underlying23 w2) trodAll_mk0))), rfl, bel.frame _, fun h => by cases h⟩

theorem numsSigns_holds : Rows.NumsSignsSaid :=
  OpenClaim.holds_of_wide 7 Try.f7 rfl rfl rfl rfl rfl rfl rfl ⟨rfl, rfl, rfl, rfl, rfl⟩ rfl rfl rfl rfl rfl (by kernel_rfl) Try.func7 (by kernel_rfl)
    (of_decide_eq_true (by kernel_rfl)) (by unfold Func.isWrapper; first | (rw [if_pos (by decide +kernel)]; kernel_rfl) | (rw [if_neg (by decide +kernel)]; exact ⟨rfl, rfl⟩))
    (fun os started H enc _ => numsSigns_lifted os started H enc)


end Go.Proofs.Ytkdodinopehpnab
