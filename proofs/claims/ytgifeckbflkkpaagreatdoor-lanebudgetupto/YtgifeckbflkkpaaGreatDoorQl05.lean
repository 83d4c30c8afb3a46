/- Count, Name, hasField, Field, Range, Told of package schema. -/
import Derived.Test.YtgifeckbflkkpaaGreatDoorQl04
namespace Go.Proofs.YtgifeckbflkkpaaGreatDoor
open Go.RowKit
set_option linter.unusedVariables false
set_option maxHeartbeats 400000
theorem cnt_out (k : Nat) (h : 6 ≤ k) : cnt k = 0 := by unfold cnt; rw [List.getElem?_eq_none (by exact h)]; rfl
theorem cnt_le (k : Nat) : cnt k ≤ 3 := by
 by_cases h : 6 ≤ k
 ·rw [cnt_out k h]; decide
 ·have : k = 0 ∨ k = 1 ∨ k = 2 ∨ k = 3 ∨ k = 4 ∨ k = 5 := by omega
  rcases this with rfl | rfl | rfl | rfl | rfl | rfl <;> decide
theorem cnt_pos (k : Nat) (h : k < 6) : 1 ≤ cnt k := by
 have : k = 0 ∨ k = 1 ∨ k = 2 ∨ k = 3 ∨ k = 4 ∨ k = 5 := by omega
 rcases this with rfl | rfl | rfl | rfl | rfl | rfl <;> decide
theorem count_any (w : World) (ht : Tab w) (k : Nat) (hk : k < 256) :
  Calls Tryz.prog 203 #[.int .u8 (k : Int)] w fun e w' => e = .returned (.int .i64 ((cnt k : Nat) : Int)) ∧ w' = w := by
 by_cases h : k < 6
 ·have h1 := ht.cnt k h
  generalize cnt k = c at *
  clear ht
  go_enter Tryz.func203,Tryz.ntmps203
  go_wp2
  go_ret
  exact ⟨rfl,rfl⟩
 ·rw [cnt_out k (by omega)]
  clear ht
  go_enter Tryz.func203,Tryz.ntmps203
  go_wp2
  go_ret
  exact ⟨rfl,rfl⟩
theorem ktold_out (k : Nat) (h : 6 ≤ k) : ktold k = false := by unfold ktold; rw [List.getElem?_eq_none (by exact h)]; rfl
theorem told_any (w : World) (ht : Tab w) (k : Nat) (hk : k < 256) :
  Calls Tryz.prog 149 #[.int .u8 (k : Int)] w fun e w' => e = .returned (.bool (ktold k)) ∧ w' = w := by
 by_cases h : k < 6
 ·have h1 := ht.told k h
  generalize ktold k = c at *
  clear ht
  go_enter Tryz.func149,Tryz.ntmps149
  go_wp2
  go_ret
  exact ⟨rfl,rfl⟩
 ·rw [ktold_out k (by omega)]
  clear ht
  go_enter Tryz.func149,Tryz.ntmps149
  go_wp2
  go_ret
  exact ⟨rfl,rfl⟩
def has (k : Nat) (i : Int) : Bool := decide (0 ≤ i ∧ i < (cnt k : Int))
theorem hasField_any (w : World) (ht : Tab w) (k : Nat) (hk : k < 256) (i : Int) :
  Calls Tryz.prog 245 #[.int .u8 (k : Int),.int .i64 i] w fun e w' => e = .returned (.bool (has k i)) ∧ w' = w := by
 have H : Hid (Tab w) := ht
 clear ht
 by_cases h : 0 ≤ i
 ·go_enter Tryz.func245,Tryz.ntmps245
  go_wp2_with fail
  refine (count_any w H.out k hk).mono ?_
  rintro e w' ⟨rfl,rfl⟩
  go_wp2
  go_ret
  refine ⟨?_,rfl⟩
  simp [has,h]
 ·go_enter Tryz.func245,Tryz.ntmps245
  go_wp2
  go_ret
  refine ⟨?_,rfl⟩
  simp [has]; omega
theorem has_nat (k : Nat) (i : Int) (h : has k i = true) : ∃ j : Nat,i = (j : Int) ∧ j < cnt k ∧ k < 6 ∧ j < 3 := by
 simp only [has,decide_eq_true_eq] at h
 obtain ⟨h0,h1⟩ := h
 have h3 := cnt_le k
 have h6 : k < 6 := by
  rcases Nat.lt_or_ge k 6 with h | h
  ·exact h
  ·rw [cnt_out k h] at h1; omega
 obtain ⟨j,rfl⟩ := Int.eq_ofNat_of_zero_le h0
 exact ⟨j,rfl,by omega,h6,by omega⟩
theorem range_ok (w : World) (ht : Tab w) (k : Nat) (hk : k < 256) (j : Nat) (hj : j < cnt k) :
  Calls Tryz.prog 227 #[.int .u8 (k : Int),.int .i64 (j : Int)] w fun e w' => e = .returned (.tuple #[.int .i32 (lo k j),.int .i32 (hi k j),.int .i64 0]) ∧ Fr Nobody w w' := by
 have h : has k j = true := by simp only [has,decide_eq_true_eq]; omega
 obtain ⟨j',e,_,h6,h3⟩ := has_nat k j h
 obtain rfl : j = j' := by omega
 have H : Hid (Tab w) := ht
 have hx := ht.lo k j h6 h3
 have hy := ht.hi k j h6 h3
 clear ht e
 generalize lo k j = a at *
 generalize hi k j = b at *
 clear hj
 go_enter Tryz.func227,Tryz.ntmps227
 go_wp2_with fail
 refine (hasField_any w H.out k hk j).mono ?_
 rintro e w' ⟨rfl,rfl⟩
 rw [h]
 clear h
 go_wp2
 go_quiet (fail)
 go_wp2
 go_ret3
 exact ⟨rfl,(Fr.refl _ _).drewN _⟩
end Go.Proofs.YtgifeckbflkkpaaGreatDoor
