/-
  How many bits a component has behind another one: stepSize, Size, SizeStep of package comp; the document's examples of layer 6.
-/
import Derived.Test.YtllhipfielgnbaaDoorKa
namespace Go.Proofs.YtllhipfielgnbaaDoor
open Go.RowKit
set_option linter.unusedVariables false
set_option maxRecDepth 100000

/-- Zig of how much more a field is -/
def mz (F G : Nat → Int) (j : Nat) : Nat := zig (G j - F j)
/-- a field's bits behind another one -/
def fsz (k : Nat) (F G : Nat → Int) (j : Nat) : Nat := if mz F G j = 0 then 1 else if mz F G j ≤ 16 then 6 else 2 + wd k j
def ssum (k : Nat) (F G : Nat → Int) : Nat → Nat
  | 0 => 0
  | n + 1 => ssum k F G n + fsz k F G n
theorem fsz_le (k : Nat) (F G : Nat → Int) (j : Nat) (h : j < cnt k) : 1 ≤ fsz k F G j ∧ fsz k F G j ≤ 22 := by
  have := wd_le k j h
  unfold fsz; split
  · omega
  · split <;> omega
theorem ssum_le (k n : Nat) (F G : Nat → Int) (h : n ≤ cnt k) : ssum k F G n ≤ 22 * n := by
  induction n with
  | zero => simp [ssum]
  | succ n ih =>
    have := ih (by omega)
    have := fsz_le k F G n (by omega)
    simp only [ssum]; omega

set_option maxHeartbeats 2000000 in
theorem fieldStepSize_any (w : World) (ht : Tab w) (k k0 j : Nat) (hk : k < 256) (hj : j < cnt k) (F G : Nat → Int) (hF : I32 F) (hG : I32 G) :
    Calls Tryd.prog 46 #[.agg (cmp k0 F), .agg (cmp k G), .int .i64 (j : Int)] w fun e w' => e = .returned (.int .i64 ((fsz k F G j : Nat) : Int)) ∧ Fr Nobody w w' := by
  obtain ⟨b1, b2, hf⟩ := boxes w k0 k F G
  have H : Hid (Tab w) := ht
  have hc := cnt_le k
  have hj3 : j < 3 := by omega
  have x1 := b1.at j hj3
  have x2 := b2.at j hj3
  have x3 := b2.kind
  have HF : Hid _ := hf
  have hm : fsz k F G j = (if mz F G j = 0 then 1 else if mz F G j ≤ 16 then 6 else 2 + wd k j) := rfl
  have M : Hid (∀ w, Calls Tryd.prog 47 #[.int .i32 (F j), .int .i32 (G j)] w fun e w' => e = .returned (.int .u64 ((mz F G j : Nat) : Int)) ∧ w' = w) := fun w => more_any w (F j) (G j) (hF j hj3) (hG j hj3)
  have R : Hid (∀ w, Tab w → _) := fun w h => range_ok w h k hk j hj
  obtain ⟨l0, l1, l2, l3⟩ := rng_ok k j hj
  have WD : Hid (∀ w, Calls Tryd.prog 53 #[.int .i64 (lo k j), .int .i64 (hi k j)] w fun e w' => e = .returned (.int .i64 (wd k j : Nat)) ∧ w' = w) := fun w => width_any (lo k j) (hi k j) w (by omega) (by omega) (by omega) (by omega)
  have hw := wd_le k j hj
  rw [hm]
  clear hm hF hG b1 ht hf hj hc
  have HB2 : Hid _ := b2
  clear b2
  generalize mz F G j = z at *
  generalize wd k j = d at *
  generalize lo k j = a at *
  generalize hi k j = b at *
  by_cases h0 : z = 0
  · rw [if_pos h0]
    subst h0
    unfold cmp at *
    generalize F j = f at *
    generalize G j = g at *
    go_enter Tryd.func46, Tryd.ntmps46
    go_wp2_with fail
    go_quiet (refine Calls.quiet_of_same (M.out _))
    have HG : Hid _ := HF.out.drewN nq
    go_wp2
    go_ret
    exact ⟨rfl, HG.out⟩
  · rw [if_neg h0]
    have n0 : ((z : Int) == 0) = false := by rw [beq_eq_false_iff_ne]; omega
    by_cases h1 : z ≤ 16
    · rw [if_pos h1]
      unfold cmp at *
      generalize F j = f at *
      generalize G j = g at *
      clear h0
      go_enter Tryd.func46, Tryd.ntmps46
      go_wp2_with fail
      go_quiet (refine Calls.quiet_of_same (M.out _))
      have HG : Hid _ := HF.out.drewN nq
      go_wp2
      go_ret
      exact ⟨rfl, HG.out⟩
    · rw [if_neg h1]
      unfold cmp at *
      generalize F j = f at *
      generalize G j = g at *
      clear h0
      go_enter Tryd.func46, Tryd.ntmps46
      go_wp2_with fail
      go_quiet (refine Calls.quiet_of_same (M.out _))
      have HG : Hid _ := HF.out.drewN nq
      go_wp2_with fail
      refine (R.out _ (H.out.quiet HG.out)).mono ?_
      rintro e w1 ⟨rfl, hf1⟩
      have HG1 : Hid _ := HG.out.trans hf1
      clear hf1
      go_wp2_with fail
      refine (WD.out _).mono ?_
      rintro e w2 ⟨rfl, rfl⟩
      go_wp2
      go_ret
      refine ⟨?_, HG1.out⟩
      simp
end Go.Proofs.YtllhipfielgnbaaDoor
