/-
  For every x and y: Len is at least as long as either side, kept in, at most as long as both together, and does not mind the order: FixedWays returns true, whatever its arguments, and changes nothing that was there.
-/
import Derived.Test.YtekdjebehieekacFb
import Derived.ProofKit
import Derived.OpenShut
namespace Go.Proofs.Ytekdjebehieekac
open Go.ChangeShapes Go.WideShapes Go.ChangeAt Go.RowKit
set_option linter.unusedVariables false

theorem own : ownKnob Try.prog.godebug = none := by kernel_rfl

theorem sq2_comm (x y : Int) : sq2 y x = sq2 x y := Nat.add_comm _ _
theorem ways (x y : Int) (r : Nat) (x0 : -2147483648 ≤ x) (x1 : x ≤ 2147483647) (y0 : -2147483648 ≤ y) (y1 : y ≤ 2147483647) (h : IsR (sq2 x y) r) : min (x.natAbs : Int) 2147483647 ≤ kp r ∧ min (y.natAbs : Int) 2147483647 ≤ kp r ∧ kp r ≤ (x.natAbs : Int) + (y.natAbs : Int) := by
  have hx : x.natAbs ≤ r := by
    refine Nat.le_of_lt_succ (Nat.lt_of_not_le fun c => ?_)
    have c' : r + 1 ≤ x.natAbs := c
    have := Nat.mul_le_mul c' c'
    have := h.2
    unfold sq2 at this
    omega
  have hy : y.natAbs ≤ r := by
    refine Nat.le_of_lt_succ (Nat.lt_of_not_le fun c => ?_)
    have c' : r + 1 ≤ y.natAbs := c
    have := Nat.mul_le_mul c' c'
    have := h.2
    unfold sq2 at this
    omega
  have hs : r ≤ x.natAbs + y.natAbs := by
    refine Nat.le_of_not_lt fun c => ?_
    have h1 := Nat.mul_le_mul (show x.natAbs + y.natAbs + 1 ≤ r from c) (show x.natAbs + y.natAbs + 1 ≤ r from c)
    have h2 := h.1
    unfold sq2 at h2
    generalize x.natAbs = a at *
    generalize y.natAbs = b at *
    have e : (a + b + 1) * (a + b + 1) = a * a + b * b + 2 * (a * b) + 2 * a + 2 * b + 1 := by
      simp only [Nat.add_mul, Nat.mul_add, Nat.one_mul, Nat.mul_one, Nat.mul_comm b a]; omega
    omega
  unfold kp
  rw [if_neg (by omega)]
  split <;> omega

set_option maxHeartbeats 1000000 in
theorem fixedWays_walk (a0 : Int) (w0 : (Lit.int .i32 a0).wf = true) (a1 : Int) (w1 : (Lit.int .i32 a1).wf = true) (w : World) :
    Calls Try.prog 4 #[.int .i32 a0, .int .i32 a1] w fun e w' => e = .returned (.bool true) ∧ Below w.heap.size w w' := by
  have hx0 : -2147483648 ≤ a0 ∧ a0 ≤ 2147483647 := by simpa [Lit.wf, IntKind.min, IntKind.max, IntKind.signed, IntKind.bits] using w0
  have hx1 : -2147483648 ≤ a1 ∧ a1 ≤ 2147483647 := by simpa [Lit.wf, IntKind.min, IntKind.max, IntKind.signed, IntKind.bits] using w1
  clear w0 w1
  obtain ⟨l0, u0⟩ := hx0
  obtain ⟨l1, u1⟩ := hx1
  obtain ⟨r, hr⟩ := isR_ex (sq2 a0 a1)
  have HR : Hid (IsR (sq2 a0 a1) r) := hr
  have HS : Hid (IsR (sq2 a1 a0) r) := by
    show IsR _ _
    rw [sq2_comm]; exact hr
  obtain ⟨z0, z1, z2⟩ := ways a0 a1 r l0 u0 l1 u1 hr
  have hk := kp_rng r
  clear hr
  go_enter Try.func4, Try.ntmps4
  go_wp2_with fail
  refine (awake_any _).mono ?_
  rintro e w' ⟨rfl, rfl⟩
  go_wp2_with fail
  refine (flen_any a0 a1 r _ l0 u0 l1 u1 HR.out).mono ?_
  rintro e w' ⟨rfl, rfl⟩
  go_wp2_with fail
  all_goals first
    | (exfalso; omega)
    | (refine (flen_any a0 a1 r _ l0 u0 l1 u1 HR.out).mono ?_
       rintro e w' ⟨rfl, rfl⟩
       go_wp2_with fail
       refine (flen_any a1 a0 r _ l1 u1 l0 u0 HS.out).mono ?_
       rintro e w' ⟨rfl, rfl⟩
       go_wp2
       go_ret
       exact ⟨rfl, Below.refl _ _⟩)
    | (exfalso; rename_i hz _ _ _; omega)

theorem fixedWays_lifted (os : Os) (started : os.Started) (H : Type) (enc : TypeId × Value → H) :
    ReturnsInHanded {} Try.checked os 4 .any (Rows.fixedWaysSpec.pre6 enc Try.prog Try.f4 Rows.fixedWaysRow.domain false) (Rows.fixedWaysSpec.post enc Try.prog Try.f4 false true false false) := by
  refine returnsInHanded_of_change (C := Try.checked) own started (by kernel_rfl) Try.func4
    (ChangeSpec.witness6 (enc := enc) (C := Try.checked) false ⟨#[], #[.int .i32 0, .int .i32 0], []⟩ 8 (by kernel_rfl) (by kernel_rfl) (by kernel_rfl) (by kernel_rfl)) ?_
  intro W base args ds gs before hval0 hW hcnd _
  have hval : ∀ (j : Nat) t v, Try.f4.params[j]? = some t → args[j]? = some v → Value.okWide Try.prog W .any base t v := hval0
  have hW' := hW
  obtain ⟨p, q, hA0, hV, rfl, hfz, hnd⟩ := hW
  have hA : DataW.TrodAll enc Try.prog W 0 (fun _ => true) true Try.f4.params.toList args.toList ds p := hA0
  rw [Try.params4] at hA hval
  obtain ⟨v0, vs0, d0, ds0, p0, q0, hargs, rfl, rfl, h0, r0⟩ := trodAll_cons hA
  obtain ⟨v1, vs1, d1, ds1, p1, q1, rfl, rfl, rfl, h1, r1⟩ := trodAll_cons r0
  obtain ⟨rfl, rfl, rfl⟩ := trodAll_nil r1
  obtain rfl : args = #[v0, v1] := by cases args; simp_all
  obtain ⟨rfl, rfl⟩ := trodVars_none hV
  obtain ⟨a0, rfl, rfl, rfl, w0⟩ := open_int Try.underlying21 (hval 0 21 v0 rfl rfl) h0
  obtain ⟨a1, rfl, rfl, rfl, w1⟩ := open_int Try.underlying21 (hval 1 21 v1 rfl rfl) h1
  clear hA0 hval0
  refine (fixedWays_walk a0 w0 a1 w1 W).mono fun e W' ⟨he, bel⟩ => ?_
  subst he
  exact ⟨_, rfl, _, _, _, [], _, [], hW', trodAll_mk1 (shut_bool Try.underlying4 _), (trodAll_cons_mk (shut_int Try.underlying21 w0) (trodAll_cons_mk (shut_int Try.underlying21 w1) trodAll_mk0)), rfl, bel.frame _, fun h => by cases h⟩

theorem fixedWays_holds : Rows.FixedWaysSaid :=
  OpenClaim.holds_of_wide 4 Try.f4 rfl rfl rfl rfl rfl rfl rfl ⟨rfl, rfl, rfl, rfl, rfl⟩ rfl rfl rfl rfl rfl (by kernel_rfl) Try.func4 (by kernel_rfl)
    (of_decide_eq_true (by kernel_rfl)) (by unfold Func.isWrapper; first | (rw [if_pos (by decide +kernel)]; kernel_rfl) | (rw [if_neg (by decide +kernel)]; exact ⟨rfl, rfl⟩))
    (fun os started H enc _ => fixedWays_lifted os started H enc)


end Go.Proofs.Ytekdjebehieekac
