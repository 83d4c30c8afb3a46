/-
  PutIn, and reading of a nil reader, of package nums.
-/
import Derived.Test.YtkdodinopehpnabAwb
namespace Go.Proofs.Ytkdodinopehpnab
open Go.RowKit
set_option linter.unusedVariables false

set_option maxHeartbeats 400000 in
theorem tryU_nil (w : World) (f : Value) : Calls Try.prog 42 #[.pointer none, f] w fun e w' => e = .returned (.tuple #[.int .u64 0, .int .i64 10]) ∧ w' = w := by
  go_enter Try.func42, Try.ntmps42
  go_wp2
  go_ret2
  exact ⟨rfl, rfl⟩

set_option maxHeartbeats 400000 in
theorem getVar_nil (w : World) : Calls Try.prog 21 #[.pointer none] w fun e w' => e = .returned (.tuple #[.int .u64 0, .int .i64 10]) ∧ Fr Nobody w w' := by
  go_enter Try.func21, Try.ntmps21
  go_wp2_with fail
  refine (tryU_nil _ _).mono ?_
  rintro e w1 ⟨rfl, rfl⟩
  go_wp2
  go_ret2
  exact ⟨rfl, (Fr.refl _ _).alloc _⟩

theorem zag0 : zag 0 = 0 := by decide +kernel
set_option maxHeartbeats 400000 in
theorem getInt_nil (w : World) : Calls Try.prog 22 #[.pointer none] w fun e w' => e = .returned (.tuple #[.int .i64 0, .int .i64 10]) ∧ Fr Nobody w w' := by
  go_enter Try.func22, Try.ntmps22
  go_wp2_with fail
  refine (getVar_nil w).mono ?_
  rintro e w1 ⟨rfl, hf⟩
  have F : Hid (Fr Nobody w w1) := hf
  clear hf
  go_wp2_with fail
  refine (zag_any 0 w1 (by decide)).mono ?_
  rw [zag0]
  rintro e w2 ⟨rfl, rfl⟩
  go_wp2
  go_ret2
  exact ⟨rfl, F.out⟩

end Go.Proofs.Ytkdodinopehpnab
