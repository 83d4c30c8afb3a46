/-
  Package slots: Make, Slot, Gen, New, Take, Free, Live, Len, Room.
-/
import Derived.Test.YtflmgilmbppieaaGreatDoorXa
import Derived.BigRegion
import Derived.BigQuiet
import Derived.Deep.QuietTactic
namespace Go.Proofs.YtflmgilmbppieaaGreatDoor
open Go.RowKit
set_option linter.unusedVariables false

theorem Tryz.infoID : (Tryz.prog.info? 38).map (fun i => (i.zero, i.size, i.bytes)) = some (some (.int .u32 0), 1, 4) := by kernel_rfl
theorem Tryz.infoInt : (Tryz.prog.info? 3).map (fun i => (i.zero, i.size, i.bytes)) = some (some (.int .i64 0), 1, 8) := by kernel_rfl
theorem Tryz.infoBool : (Tryz.prog.info? 4).map (fun i => (i.zero, i.size, i.bytes)) = some (some (.bool false), 1, 1) := by kernel_rfl

/-- Slots at block b. -/
def Slots (b : Nat) (S : St) : Thing := Ex (fun v : Value × Value × Value =>
  [Cells b #[.int .i64 (S.n : Int), .int .i64 (S.first : Int), v.1, v.2.1, v.2.2, .int .i64 (S.live : Int)] 262,
   Row 38 1 v.1 S.last.length (irow .u32 S.last), Row 4 1 v.2.1 S.used.length (brow S.used), Row 3 1 v.2.2 S.freed.length (irow .i64 S.freed)])

set_option maxHeartbeats 400000 in
theorem slot_any (id : Nat) (w : World) (h : id < 4294967296) : Calls Tryz.prog 144 #[.int .u32 (id : Int)] w fun e w' => e = .returned (.int .i64 ((id % 1024 : Nat) : Int)) ∧ w' = w := by
  go_enter Tryz.func144, Tryz.ntmps144
  go_wp2
  go_ret
  exact ⟨ret_int (by omega), rfl⟩
set_option maxHeartbeats 400000 in
theorem gen_any (id : Nat) (w : World) (h : id < 4294967296) : Calls Tryz.prog 145 #[.int .u32 (id : Int)] w fun e w' => e = .returned (.int .i64 ((id / 1024 : Nat) : Int)) ∧ w' = w := by
  go_enter Tryz.func145, Tryz.ntmps145
  go_wp2
  go_ret
  exact ⟨ret_int (by omega), rfl⟩
set_option maxHeartbeats 400000 in
theorem isGen_yes (g : Int) (w : World) (h1 : 1 ≤ g) (h2 : g ≤ 4194303) : Calls Tryz.prog 161 #[.int .i64 g] w fun e w' => e = .returned (.bool true) ∧ w' = w := by
  go_enter Tryz.func161, Tryz.ntmps161
  go_wp2
  go_ret
  exact ⟨rfl, rfl⟩
set_option maxHeartbeats 400000 in
theorem isGen_no (g : Int) (w : World) (h : g < 1 ∨ 4194303 < g) : Calls Tryz.prog 161 #[.int .i64 g] w fun e w' => e = .returned (.bool false) ∧ w' = w := by
  rcases h with h | h
  · go_enter Tryz.func161, Tryz.ntmps161
    go_wp2
    go_ret
    exact ⟨rfl, rfl⟩
  · have h1 : 1 ≤ g := by omega
    have hd : decide (g ≤ 4194303) = false := by simp; omega
    go_enter Tryz.func161, Tryz.ntmps161
    go_wp2
    go_ret
    exact ⟨rfl, rfl⟩
set_option maxHeartbeats 400000 in
theorem number_any (s g : Nat) (w : World) (h1 : s < 1024) (h2 : g ≤ 4194303) : Calls Tryz.prog 186 #[.int .i64 (s : Int), .int .i64 (g : Int)] w fun e w' => e = .returned (.int .u32 ((g * 1024 + s : Nat) : Int)) ∧ w' = w := by
  go_enter Tryz.func186, Tryz.ntmps186
  go_wp2
  go_ret
  exact ⟨ret_int (by omega), rfl⟩

set_option maxHeartbeats 400000 in
set_option maxRecDepth 100000 in
theorem make_yes (s g : Nat) (w : World) (h1 : s < 1024) (h2 : 1 ≤ g) (h3 : g ≤ 4194303) : Calls Tryz.prog 143 #[.int .i64 (s : Int), .int .i64 (g : Int)] w fun e w' => e = .returned (.tuple #[.int .u32 ((g * 1024 + s : Nat) : Int), .int .i64 0]) ∧ w' = w := by
  go_enter Tryz.func143, Tryz.ntmps143
  go_wp2_with (first | (go_at_call 161; refine (isGen_yes _ _ (by omega) (by omega)).mono ?_; rintro e w' ⟨rfl, rfl⟩) | (go_at_call 186; refine (number_any _ _ _ h1 h3).mono ?_; rintro e w' ⟨rfl, rfl⟩))
  go_ret2
  exact ⟨rfl, rfl⟩
set_option maxHeartbeats 400000 in
theorem make_no (s g : Int) (w : World) (h : s < 0 ∨ 1024 ≤ s ∨ g < 1 ∨ 4194303 < g) : Calls Tryz.prog 143 #[.int .i64 s, .int .i64 g] w fun e w' => e = .returned (.tuple #[.int .u32 0, .int .i64 1]) ∧ w' = w := by
  by_cases c1 : s < 0
  · go_enter Tryz.func143, Tryz.ntmps143
    go_wp2
    go_ret2
    exact ⟨rfl, rfl⟩
  · by_cases c2 : 1024 ≤ s
    · go_enter Tryz.func143, Tryz.ntmps143
      go_wp2
      go_ret2
      exact ⟨rfl, rfl⟩
    · go_enter Tryz.func143, Tryz.ntmps143
      go_wp2_with (first | (go_at_call 161; refine (isGen_no _ _ (by omega)).mono ?_; rintro e w' ⟨rfl, rfl⟩))
      go_ret2
      exact ⟨rfl, rfl⟩

set_option maxHeartbeats 400000 in
theorem new_ok (w0 w : World) (l : List Thing) (n f : Nat) (h : Own w0 w l) (h1 : 1 ≤ n) (h2 : n ≤ 1024) (h3 : 1 ≤ f) (h4 : f ≤ 4194303) :
    Calls Tryz.prog 103 #[.int .i64 (n : Int), .int .i64 (f : Int)] w fun e w' => ∃ b, e = .returned (.tuple #[.pointer (some ⟨b, 0, none⟩), .int .i64 0]) ∧ w.heap.size ≤ b ∧ Own w0 w' (Slots b (St.new n f) :: l) := by
  go_enter Tryz.func103, Tryz.ntmps103
  go_wp2_with (first | (go_at_call 161; refine (isGen_yes _ _ (by omega) (by omega)).mono ?_; rintro e w' ⟨rfl, rfl⟩))
  go_ret2
  refine ⟨_, rfl, Nat.le_refl _, Own.ex_iff.2 ⟨(.slice none 0 0, .slice none 0 0, .slice none 0 0), ?_⟩⟩
  have k := ((((h.allocC #[.int .i64 (n : Int), .int .i64 (f : Int), .slice none 0 0, .slice none 0 0, .slice none 0 0, .int .i64 0] 262).nilRow 3 1).nilRow 4 1).nilRow 38 1)
  exact k.four
set_option maxHeartbeats 400000 in
theorem new_no (w : World) (n f : Int) (h : n < 1 ∨ 1024 < n ∨ f < 1 ∨ 4194303 < f) : Calls Tryz.prog 103 #[.int .i64 n, .int .i64 f] w fun e w' => e = .returned (.tuple #[.pointer none, .int .i64 1]) ∧ w' = w := by
  by_cases c1 : n < 1
  · go_enter Tryz.func103, Tryz.ntmps103
    go_wp2
    go_ret2
    exact ⟨rfl, rfl⟩
  · by_cases c2 : 1024 < n
    · go_enter Tryz.func103, Tryz.ntmps103
      go_wp2
      go_ret2
      exact ⟨rfl, rfl⟩
    · go_enter Tryz.func103, Tryz.ntmps103
      go_wp2_with (first | (go_at_call 161; refine (isGen_no _ _ (by omega)).mono ?_; rintro e w' ⟨rfl, rfl⟩))
      go_ret2
      exact ⟨rfl, rfl⟩
end Go.Proofs.YtflmgilmbppieaaGreatDoor
