/- The document's Count, Name, Field, Range, Told; the width by halving. -/
import Derived.Test.YtgifeckbflkkpaaGreatDoorQr07
namespace Go.Proofs.YtgifeckbflkkpaaGreatDoor
open Go.RowKit
set_option linter.unusedVariables false
set_option maxHeartbeats 4000000
theorem six (k : Nat) (h : k < 6) : k = 0 ∨ k = 1 ∨ k = 2 ∨ k = 3 ∨ k = 4 ∨ k = 5 := by omega
theorem rcount_any (w : World) (k : Nat) (hk : k < 256) :
  Calls Tryz.prog 108 #[.int .u8 (k : Int)] w fun e w' => e = .returned (.int .i64 ((cnt k : Nat) : Int)) ∧ Fr Nobody w w' := by
 by_cases h : k < 6
 ·rcases six k h with rfl | rfl | rfl | rfl | rfl | rfl
  all_goals
   go_enter Tryz.func108,Tryz.ntmps108
   go_wp2
   go_ret
   exact ⟨rfl,(Fr.refl _ _).alloc _⟩
 ·rw [cnt_out k (by omega)]
  go_enter Tryz.func108,Tryz.ntmps108
  go_wp2
  go_ret
  exact ⟨rfl,Fr.refl _ _⟩
theorem rtold_any (w : World) (k : Nat) (hk : k < 256) :
  Calls Tryz.prog 71 #[.int .u8 (k : Int)] w fun e w' => e = .returned (.bool (ktold k)) ∧ Fr Nobody w w' := by
 by_cases h : k < 6
 ·rcases six k h with rfl | rfl | rfl | rfl | rfl | rfl
  all_goals
   go_enter Tryz.func71,Tryz.ntmps71
   go_wp2
   go_ret
   exact ⟨rfl,Fr.refl _ _⟩
 ·rw [ktold_out k (by omega)]
  go_enter Tryz.func71,Tryz.ntmps71
  go_wp2
  go_ret
  refine ⟨?_,Fr.refl _ _⟩
  have : ¬ (k : Int) < 5 := by omega
  simp [this]
theorem pairs (k j : Nat) (h : j < cnt k) : (k = 0 ∧ (j = 0 ∨ j = 1)) ∨ (k = 1 ∧ (j = 0 ∨ j = 1)) ∨ (k = 2 ∧ j = 0) ∨ (k = 3 ∧ (j = 0 ∨ j = 1 ∨ j = 2)) ∨ (k = 4 ∧ (j = 0 ∨ j = 1 ∨ j = 2)) ∨ (k = 5 ∧ (j = 0 ∨ j = 1 ∨ j = 2)) := by
 have h6 : k < 6 := by
  rcases Nat.lt_or_ge k 6 with h' | h'
  ·exact h'
  ·rw [cnt_out k h'] at h; omega
 rcases six k h6 with rfl | rfl | rfl | rfl | rfl | rfl
 all_goals
  simp only [cnt,kinds] at h
  simp at h
  omega
theorem rrange_ok (w : World) (k j : Nat) (hj : j < cnt k) :
  Calls Tryz.prog 109 #[.int .u8 (k : Int),.int .i64 (j : Int)] w fun e w' => e = .returned (.tuple #[.int .i32 (lo k j),.int .i32 (hi k j),.int .i64 0]) ∧ Fr Nobody w w' := by
 rcases pairs k j hj with ⟨rfl,rfl | rfl⟩ | ⟨rfl,rfl | rfl⟩ | ⟨rfl,rfl⟩ | ⟨rfl,rfl | rfl | rfl⟩ | ⟨rfl,rfl | rfl | rfl⟩ | ⟨rfl,rfl | rfl | rfl⟩
 all_goals
  clear hj
  go_enter Tryz.func109,Tryz.ntmps109
  go_wp2_with fail
  refine (rcount_any w _ (by decide)).mono ?_
  rintro e w' ⟨rfl,hf⟩
  have HF : Hid _ := hf
  clear hf
  simp only [cnt,kinds]
  go_wp2
  go_ret3
  exact ⟨rfl,((((((((((((((HF.out.alloc _).alloc _).alloc _).alloc _).alloc _).alloc _).alloc _).alloc _).alloc _).alloc _).alloc _).alloc _).alloc _).alloc _)⟩
end Go.Proofs.YtgifeckbflkkpaaGreatDoor
