/-
  Bits of package schema and of the document; the document's Field and Range where there is none.
-/
import Derived.Test.YtflmgilmbppieaaGreatDoorSe
import Derived.Test.YtflmgilmbppieaaGreatDoorRd
import Derived.Deep.RegionWith
namespace Go.Proofs.YtflmgilmbppieaaGreatDoor
open Go.RowKit
set_option linter.unusedVariables false

set_option maxHeartbeats 1000000 in
theorem rrange_no (w : World) (k : Nat) (hk : k < 256) (i : Int) (h : has k i = false) :
    Calls Tryz.prog 166 #[.int .u8 (k : Int), .int .i64 i] w fun e w' => e = .returned (.tuple #[.int .i32 0, .int .i32 0, .int .i64 1]) ∧ Fr Nobody w w' := by
  by_cases h0 : i < 0
  · clear h
    go_enter Tryz.func166, Tryz.ntmps166
    go_wp2
    go_ret3
    exact ⟨rfl, Fr.refl _ _⟩
  · have h1 : (cnt k : Int) ≤ i := by simp [has] at h; omega
    clear h
    go_enter Tryz.func166, Tryz.ntmps166
    go_wp2_with fail
    refine (rcount_any w _ hk).mono ?_
    rintro e w' ⟨rfl, hf⟩
    have HF : Hid _ := hf
    clear hf
    generalize cnt k = c at *
    go_wp2
    go_ret3
    exact ⟨rfl, HF.out⟩

/-- the bits of the fields from the first on, so many -/
def wd (k j : Nat) : Nat := wid (lo k j) (hi k j)
def bsum (k : Nat) : Nat → Nat
  | 0 => 0
  | n + 1 => bsum k n + wd k n
def bitsK (k : Nat) : Nat := bsum k (cnt k)

theorem rng_ok (k j : Nat) (h : j < cnt k) : -524288 ≤ lo k j ∧ lo k j ≤ 1 ∧ 7 ≤ hi k j ∧ hi k j ≤ 524287 := by
  rcases pairs k j h with ⟨rfl, rfl | rfl⟩ | ⟨rfl, rfl | rfl⟩ | ⟨rfl, rfl⟩ | ⟨rfl, rfl | rfl | rfl⟩ | ⟨rfl, rfl | rfl | rfl⟩ | ⟨rfl, rfl | rfl | rfl⟩ <;> decide
theorem wd_le (k j : Nat) (h : j < cnt k) : 3 ≤ wd k j ∧ wd k j ≤ 20 := by
  rcases pairs k j h with ⟨rfl, rfl | rfl⟩ | ⟨rfl, rfl | rfl⟩ | ⟨rfl, rfl⟩ | ⟨rfl, rfl | rfl | rfl⟩ | ⟨rfl, rfl | rfl | rfl⟩ | ⟨rfl, rfl | rfl | rfl⟩ <;> decide +kernel
theorem bsum_le (k n : Nat) (h : n ≤ cnt k) : bsum k n ≤ 20 * n := by
  induction n with
  | zero => simp [bsum]
  | succ n ih =>
    have := ih (by omega)
    have := wd_le k n (by omega)
    simp only [bsum]; omega

end Go.Proofs.YtflmgilmbppieaaGreatDoor
