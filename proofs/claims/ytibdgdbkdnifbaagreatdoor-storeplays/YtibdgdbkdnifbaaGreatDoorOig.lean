/-
  No store: what is answered then.
-/
import Derived.Test.YtibdgdbkdnifbaaGreatDoorObg
namespace Go.Proofs.YtibdgdbkdnifbaaGreatDoor
open Go.RowKit Go.Maps
set_option linter.unusedVariables false

set_option maxHeartbeats 400000 in
theorem spawn_nil (w : World) (v : Value) : Calls Tryz.prog 8 #[.pointer none, v] w fun e w' => e = .returned (.tuple #[.int .u32 0, .int .i64 10]) ∧ Fr Nobody w w' := by
  go_enter Tryz.func8, Tryz.ntmps8
  go_wp2
  go_ret2
  exact ⟨rfl, Fr.refl _ _⟩
set_option maxHeartbeats 400000 in
theorem despawn_nil (w : World) (id : Int) : Calls Tryz.prog 10 #[.pointer none, .int .u32 id] w fun e w' => e = .returned (.int .i64 10) ∧ Fr Nobody w w' := by
  go_enter Tryz.func10, Tryz.ntmps10
  go_wp2_with (go_at_call 33; refine (home_nil _ _).mono ?_; rintro e w' ⟨rfl, rfl⟩)
  go_ret
  exact ⟨rfl, Fr.refl _ _⟩
set_option maxHeartbeats 400000 in
theorem homeFor_nil (w : World) (id : Int) (k a b c : Int) : Calls Tryz.prog 40 #[.pointer none, .int .u32 id, .agg #[.int .u8 k, .int .i32 a, .int .i32 b, .int .i32 c]] w fun e w' => e = .returned (.tuple #[.pointer none, .int .i64 10]) ∧ Fr Nobody w w' := by
  go_enter Tryz.func40, Tryz.ntmps40
  go_wp2
  go_ret2
  exact ⟨rfl, (Fr.refl _ _).alloc _⟩
set_option maxHeartbeats 400000 in
theorem set_nil (w : World) (id : Int) (k a b c : Int) : Calls Tryz.prog 12 #[.pointer none, .int .u32 id, .agg #[.int .u8 k, .int .i32 a, .int .i32 b, .int .i32 c]] w fun e w' => e = .returned (.int .i64 10) ∧ Fr Nobody w w' := by
  go_enter Tryz.func12, Tryz.ntmps12
  go_wp2_with fail
  refine (homeFor_nil _ _ _ _ _ _).mono ?_
  rintro e w1 ⟨rfl, hf⟩
  go_wp2
  go_ret
  exact ⟨rfl, ((Fr.refl _ _).alloc _).trans hf⟩
set_option maxHeartbeats 400000 in
theorem add_nil (w : World) (id : Int) (k a b c : Int) : Calls Tryz.prog 15 #[.pointer none, .int .u32 id, .agg #[.int .u8 k, .int .i32 a, .int .i32 b, .int .i32 c]] w fun e w' => e = .returned (.int .i64 10) ∧ Fr Nobody w w' := by
  go_enter Tryz.func15, Tryz.ntmps15
  go_wp2_with fail
  refine (homeFor_nil _ _ _ _ _ _).mono ?_
  rintro e w1 ⟨rfl, hf⟩
  go_wp2
  go_ret
  exact ⟨rfl, ((Fr.refl _ _).alloc _).trans hf⟩
set_option maxHeartbeats 400000 in
theorem remove_nil (w : World) (id k : Int) : Calls Tryz.prog 17 #[.pointer none, .int .u32 id, .int .u8 k] w fun e w' => e = .returned (.int .i64 10) ∧ Fr Nobody w w' := by
  go_enter Tryz.func17, Tryz.ntmps17
  go_wp2_with (go_at_call 33; refine (home_nil _ _).mono ?_; rintro e w' ⟨rfl, rfl⟩)
  go_ret
  exact ⟨rfl, Fr.refl _ _⟩
end Go.Proofs.YtibdgdbkdnifbaaGreatDoor
