/-
  Count, Name, hasField, Field, Range, Told of package schema.
-/
import Derived.Test.YtflmgilmbppieaaGreatDoorSc
import Derived.Test.YtflmgilmbppieaaGreatDoorNb
namespace Go.Proofs.YtflmgilmbppieaaGreatDoor
open Go.RowKit
set_option linter.unusedVariables false

theorem cnt_out (k : Nat) (h : 6 ≤ k) : cnt k = 0 := by unfold cnt; rw [List.getElem?_eq_none (by exact h)]; rfl
theorem cnt_le (k : Nat) : cnt k ≤ 3 := by
  by_cases h : 6 ≤ k
  · rw [cnt_out k h]; decide
  · have : k = 0 ∨ k = 1 ∨ k = 2 ∨ k = 3 ∨ k = 4 ∨ k = 5 := by omega
    rcases this with rfl | rfl | rfl | rfl | rfl | rfl <;> decide
theorem cnt_pos (k : Nat) (h : k < 6) : 1 ≤ cnt k := by
  have : k = 0 ∨ k = 1 ∨ k = 2 ∨ k = 3 ∨ k = 4 ∨ k = 5 := by omega
  rcases this with rfl | rfl | rfl | rfl | rfl | rfl <;> decide

set_option maxHeartbeats 400000 in
theorem count_any (w : World) (ht : Tab w) (k : Nat) (hk : k < 256) :
    Calls Tryz.prog 164 #[.int .u8 (k : Int)] w fun e w' => e = .returned (.int .i64 ((cnt k : Nat) : Int)) ∧ w' = w := by
  by_cases h : k < 6
  · have h1 := ht.cnt k h
    generalize cnt k = c at *
    clear ht
    go_enter Tryz.func164, Tryz.ntmps164
    go_wp2
    go_ret
    exact ⟨rfl, rfl⟩
  · rw [cnt_out k (by omega)]
    clear ht
    go_enter Tryz.func164, Tryz.ntmps164
    go_wp2
    go_ret
    exact ⟨rfl, rfl⟩

def wname (k : Nat) : ByteArray := bstr5 (kname k)
def wfname (k j : Nat) : ByteArray := if j < cnt k then bstr5 (fname k j) else ByteArray.empty
theorem kname_out (k : Nat) (h : 6 ≤ k) : kname k = [] := by unfold kname; rw [List.getElem?_eq_none (by exact h)]; rfl
theorem ktold_out (k : Nat) (h : 6 ≤ k) : ktold k = false := by unfold ktold; rw [List.getElem?_eq_none (by exact h)]; rfl

set_option maxHeartbeats 400000 in
theorem told_any (w : World) (ht : Tab w) (k : Nat) (hk : k < 256) :
    Calls Tryz.prog 147 #[.int .u8 (k : Int)] w fun e w' => e = .returned (.bool (ktold k)) ∧ w' = w := by
  by_cases h : k < 6
  · have h1 := ht.told k h
    generalize ktold k = c at *
    clear ht
    go_enter Tryz.func147, Tryz.ntmps147
    go_wp2
    go_ret
    exact ⟨rfl, rfl⟩
  · rw [ktold_out k (by omega)]
    clear ht
    go_enter Tryz.func147, Tryz.ntmps147
    go_wp2
    go_ret
    exact ⟨rfl, rfl⟩

def has (k : Nat) (i : Int) : Bool := decide (0 ≤ i ∧ i < (cnt k : Int))
theorem has_nat (k : Nat) (i : Int) (h : has k i = true) : ∃ j : Nat, i = (j : Int) ∧ j < cnt k ∧ k < 6 ∧ j < 3 := by
  simp only [has, decide_eq_true_eq] at h
  obtain ⟨h0, h1⟩ := h
  have h3 := cnt_le k
  have h6 : k < 6 := by
    rcases Nat.lt_or_ge k 6 with h | h
    · exact h
    · rw [cnt_out k h] at h1; omega
  obtain ⟨j, rfl⟩ := Int.eq_ofNat_of_zero_le h0
  exact ⟨j, rfl, by omega, h6, by omega⟩

end Go.Proofs.YtflmgilmbppieaaGreatDoor
