/-
  The document's examples of package fixed: awake answers true.
-/
import Derived.Test.YtekdjebehieekacFa
namespace Go.Proofs.Ytekdjebehieekac
open Go.RowKit
set_option linter.unusedVariables false

set_option maxHeartbeats 1000000 in
theorem awake_any (w : World) : Calls Try.prog 5 #[] w fun e w' => e = .returned (.bool true) ∧ w' = w := by
  have k1 : kp ((256 * 256 : Int).tdiv 768) = 85 := by decide
  have k2 : kp ((384 * (-384) : Int).tdiv 256) = -576 := by decide
  have HK : Hid (kp ((256 * 256 : Int).tdiv 768) = 85 ∧ kp ((384 * (-384) : Int).tdiv 256) = -576) := ⟨k1, k2⟩
  clear k1 k2
  go_enter Try.func5, Try.ntmps5
  go_wp2_with fail
  refine (div_any 256 768 w (by decide) (by decide) (by decide) (by decide) (by decide)).mono ?_
  rintro e w' ⟨rfl, rfl⟩
  rw [HK.out.1]
  go_wp2_with fail
  refine (mul_any 384 (-384) _ (by decide) (by decide) (by decide) (by decide)).mono ?_
  rintro e w' ⟨rfl, rfl⟩
  rw [HK.out.2]
  go_wp2_with fail
  refine (floor_any (-1) _ (by decide) (by decide)).mono ?_
  rintro e w' ⟨rfl, rfl⟩
  go_wp2_with fail
  refine (root_any 99 9 _ (by decide) ⟨by decide, by decide⟩).mono ?_
  rintro e w' ⟨rfl, rfl⟩
  go_wp2_with fail
  refine (flen_any 3 4 5 _ (by decide) (by decide) (by decide) (by decide) ⟨by decide, by decide⟩).mono ?_
  rintro e w' ⟨rfl, rfl⟩
  rw [show kp ((5 : Nat) : Int) = 5 by decide]
  go_wp2
  go_ret
  exact ⟨rfl, rfl⟩
end Go.Proofs.Ytekdjebehieekac
