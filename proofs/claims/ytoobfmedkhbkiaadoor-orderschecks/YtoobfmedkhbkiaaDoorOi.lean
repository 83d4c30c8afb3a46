/-
  No store: what is answered then.
-/
import Derived.Test.YtoobfmedkhbkiaaDoorOb
namespace Go.Proofs.YtoobfmedkhbkiaaDoor
open Go.RowKit Go.Maps
set_option linter.unusedVariables false

set_option maxHeartbeats 400000 in
theorem spawn_nil (w : World) (v : Value) : Calls Tryd.prog 34 #[.pointer none, v] w fun e w' => e = .returned (.tuple #[.int .u32 0, .int .i64 10]) ∧ Fr Nobody w w' := by
  go_enter Tryd.func34, Tryd.ntmps34
  go_wp2
  go_ret2
  exact ⟨rfl, Fr.refl _ _⟩
set_option maxHeartbeats 400000 in
theorem despawn_nil (w : World) (id : Int) : Calls Tryd.prog 35 #[.pointer none, .int .u32 id] w fun e w' => e = .returned (.int .i64 10) ∧ Fr Nobody w w' := by
  go_enter Tryd.func35, Tryd.ntmps35
  go_wp2_with (go_at_call 44; refine (home_nil _ _).mono ?_; rintro e w' ⟨rfl, rfl⟩)
  go_ret
  exact ⟨rfl, Fr.refl _ _⟩
set_option maxHeartbeats 400000 in
theorem homeFor_nil (w : World) (id : Int) (k a b c : Int) : Calls Tryd.prog 47 #[.pointer none, .int .u32 id, .agg #[.int .u8 k, .int .i32 a, .int .i32 b, .int .i32 c]] w fun e w' => e = .returned (.tuple #[.pointer none, .int .i64 10]) ∧ Fr Nobody w w' := by
  go_enter Tryd.func47, Tryd.ntmps47
  go_wp2
  go_ret2
  exact ⟨rfl, (Fr.refl _ _).alloc _⟩
set_option maxHeartbeats 400000 in
theorem set_nil (w : World) (id : Int) (k a b c : Int) : Calls Tryd.prog 36 #[.pointer none, .int .u32 id, .agg #[.int .u8 k, .int .i32 a, .int .i32 b, .int .i32 c]] w fun e w' => e = .returned (.int .i64 10) ∧ Fr Nobody w w' := by
  go_enter Tryd.func36, Tryd.ntmps36
  go_wp2_with fail
  refine (homeFor_nil _ _ _ _ _ _).mono ?_
  rintro e w1 ⟨rfl, hf⟩
  go_wp2
  go_ret
  exact ⟨rfl, ((Fr.refl _ _).alloc _).trans hf⟩
set_option maxHeartbeats 400000 in
theorem add_nil (w : World) (id : Int) (k a b c : Int) : Calls Tryd.prog 37 #[.pointer none, .int .u32 id, .agg #[.int .u8 k, .int .i32 a, .int .i32 b, .int .i32 c]] w fun e w' => e = .returned (.int .i64 10) ∧ Fr Nobody w w' := by
  go_enter Tryd.func37, Tryd.ntmps37
  go_wp2_with fail
  refine (homeFor_nil _ _ _ _ _ _).mono ?_
  rintro e w1 ⟨rfl, hf⟩
  go_wp2
  go_ret
  exact ⟨rfl, ((Fr.refl _ _).alloc _).trans hf⟩
set_option maxHeartbeats 400000 in
theorem remove_nil (w : World) (id k : Int) : Calls Tryd.prog 38 #[.pointer none, .int .u32 id, .int .u8 k] w fun e w' => e = .returned (.int .i64 10) ∧ Fr Nobody w w' := by
  go_enter Tryd.func38, Tryd.ntmps38
  go_wp2_with (go_at_call 44; refine (home_nil _ _).mono ?_; rintro e w' ⟨rfl, rfl⟩)
  go_ret
  exact ⟨rfl, Fr.refl _ _⟩
end Go.Proofs.YtoobfmedkhbkiaaDoor
