/-
  Package slots: Make, Slot, Gen, New, Take, Free, Live, Len, Room.
-/
import Derived.Test.YtcmofbhfdagpcaaGreatDoorXa
import Derived.BigRegion
import Derived.BigQuiet
import Derived.Deep.QuietTactic
namespace Go.Proofs.YtcmofbhfdagpcaaGreatDoor
open Go.RowKit
set_option linter.unusedVariables false

theorem Tryz.infoID : (Tryz.prog.info? 87).map (fun i => (i.zero, i.size, i.bytes)) = some (some (.int .u32 0), 1, 4) := by kernel_rfl
theorem Tryz.infoInt : (Tryz.prog.info? 3).map (fun i => (i.zero, i.size, i.bytes)) = some (some (.int .i64 0), 1, 8) := by kernel_rfl
theorem Tryz.infoBool : (Tryz.prog.info? 4).map (fun i => (i.zero, i.size, i.bytes)) = some (some (.bool false), 1, 1) := by kernel_rfl

set_option maxHeartbeats 400000 in
theorem slot_any (id : Nat) (w : World) (h : id < 4294967296) : Calls Tryz.prog 75 #[.int .u32 (id : Int)] w fun e w' => e = .returned (.int .i64 ((id % 1024 : Nat) : Int)) ∧ w' = w := by
  go_enter Tryz.func75, Tryz.ntmps75
  go_wp2
  go_ret
  exact ⟨ret_int (by omega), rfl⟩
set_option maxHeartbeats 400000 in
theorem gen_any (id : Nat) (w : World) (h : id < 4294967296) : Calls Tryz.prog 76 #[.int .u32 (id : Int)] w fun e w' => e = .returned (.int .i64 ((id / 1024 : Nat) : Int)) ∧ w' = w := by
  go_enter Tryz.func76, Tryz.ntmps76
  go_wp2
  go_ret
  exact ⟨ret_int (by omega), rfl⟩
set_option maxHeartbeats 400000 in
theorem isGen_yes (g : Int) (w : World) (h1 : 1 ≤ g) (h2 : g ≤ 4194303) : Calls Tryz.prog 96 #[.int .i64 g] w fun e w' => e = .returned (.bool true) ∧ w' = w := by
  go_enter Tryz.func96, Tryz.ntmps96
  go_wp2
  go_ret
  exact ⟨rfl, rfl⟩
set_option maxHeartbeats 400000 in
theorem isGen_no (g : Int) (w : World) (h : g < 1 ∨ 4194303 < g) : Calls Tryz.prog 96 #[.int .i64 g] w fun e w' => e = .returned (.bool false) ∧ w' = w := by
  rcases h with h | h
  · go_enter Tryz.func96, Tryz.ntmps96
    go_wp2
    go_ret
    exact ⟨rfl, rfl⟩
  · have h1 : 1 ≤ g := by omega
    have hd : decide (g ≤ 4194303) = false := by simp; omega
    go_enter Tryz.func96, Tryz.ntmps96
    go_wp2
    go_ret
    exact ⟨rfl, rfl⟩
set_option maxHeartbeats 400000 in
theorem number_any (s g : Nat) (w : World) (h1 : s < 1024) (h2 : g ≤ 4194303) : Calls Tryz.prog 97 #[.int .i64 (s : Int), .int .i64 (g : Int)] w fun e w' => e = .returned (.int .u32 ((g * 1024 + s : Nat) : Int)) ∧ w' = w := by
  go_enter Tryz.func97, Tryz.ntmps97
  go_wp2
  go_ret
  exact ⟨ret_int (by omega), rfl⟩

set_option maxHeartbeats 400000 in
set_option maxRecDepth 100000 in
theorem make_yes (s g : Nat) (w : World) (h1 : s < 1024) (h2 : 1 ≤ g) (h3 : g ≤ 4194303) : Calls Tryz.prog 74 #[.int .i64 (s : Int), .int .i64 (g : Int)] w fun e w' => e = .returned (.tuple #[.int .u32 ((g * 1024 + s : Nat) : Int), .int .i64 0]) ∧ w' = w := by
  go_enter Tryz.func74, Tryz.ntmps74
  go_wp2_with (first | (go_at_call 96; refine (isGen_yes _ _ (by omega) (by omega)).mono ?_; rintro e w' ⟨rfl, rfl⟩) | (go_at_call 97; refine (number_any _ _ _ h1 h3).mono ?_; rintro e w' ⟨rfl, rfl⟩))
  go_ret2
  exact ⟨rfl, rfl⟩
set_option maxHeartbeats 400000 in
theorem make_no (s g : Int) (w : World) (h : s < 0 ∨ 1024 ≤ s ∨ g < 1 ∨ 4194303 < g) : Calls Tryz.prog 74 #[.int .i64 s, .int .i64 g] w fun e w' => e = .returned (.tuple #[.int .u32 0, .int .i64 1]) ∧ w' = w := by
  by_cases c1 : s < 0
  · go_enter Tryz.func74, Tryz.ntmps74
    go_wp2
    go_ret2
    exact ⟨rfl, rfl⟩
  · by_cases c2 : 1024 ≤ s
    · go_enter Tryz.func74, Tryz.ntmps74
      go_wp2
      go_ret2
      exact ⟨rfl, rfl⟩
    · go_enter Tryz.func74, Tryz.ntmps74
      go_wp2_with (first | (go_at_call 96; refine (isGen_no _ _ (by omega)).mono ?_; rintro e w' ⟨rfl, rfl⟩))
      go_ret2
      exact ⟨rfl, rfl⟩

end Go.Proofs.YtcmofbhfdagpcaaGreatDoor

