/-
  Sorting IDs: how long a number is.
-/
import Derived.Test.YthokgjkgfolojabDoorSoc
namespace Go.Proofs.YthokgjkgfolojabDoor
open Go.RowKit Go.Sort
set_option linter.unusedVariables false
set_option maxRecDepth 100000

theorem ww_small (m : Nat) (h : m < 256) : wrap64 (wrap64 (m : Int)) = (m : Int) := by unfold wrap64; omega
set_option maxHeartbeats 4000000 in
theorem len64_low (w : World) (x : Nat) (hx : x < 256) : Calls Tryd.prog 48 #[.int .u64 (x : Int)] w fun e w' => ∃ v : Nat, e = .returned (.int .i64 (v : Int)) ∧ w' = w ∧ v ≤ 8 ∧ (0 < x → 2 ^ v ≤ 2 * x) := by
  have x1 : ¬ (4294967296 : Int) ≤ (x : Int) := by omega
  have x2 : ¬ (65536 : Int) ≤ (x : Int) := by omega
  have x3 : ¬ (256 : Int) ≤ (x : Int) := by omega
  go_enter Tryd.func48, Tryd.ntmps48
  go_wp2
  go_ret
  refine ⟨_, congrArg (fun z => Ending.returned (.int .i64 z)) (ww_small _ (UInt8.toNat_lt _)), rfl, ?_⟩
  rw [← getElem!_pos]
  clear x1 x2 x3
  revert x
  decide +kernel
set_option maxHeartbeats 4000000 in
theorem blen_ok (w : World) (x : Nat) (hx : x < 256) : Calls Tryd.prog 36 #[.int .u64 (x : Int)] w fun e w' => ∃ v : Nat, e = .returned (.int .i64 (v : Int)) ∧ w' = w ∧ v ≤ 8 ∧ (0 < x → 2 ^ v ≤ 2 * x) := by
  have H : Hid (Calls _ _ _ _ _) := len64_low w x hx
  go_enter Tryd.func36, Tryd.ntmps36
  go_wp2_with fail
  refine H.out.mono ?_
  rintro e w' ⟨v, rfl, rfl, hv, hp⟩
  have HP : Hid (0 < x → 2 ^ v ≤ 2 * x) := hp
  clear hp H
  go_wp2
  go_ret
  exact ⟨v, rfl, rfl, hv, HP.out⟩
end Go.Proofs.YthokgjkgfolojabDoor
