/-
  The document's Field; Kind of package schema.
-/
import Derived.Test.YtpmolkomnnpepaaDoorSi
namespace Go.Proofs.YtpmolkomnnpepaaDoor
open Go.RowKit
set_option linter.unusedVariables false
set_option maxRecDepth 100000

set_option maxHeartbeats 1000000 in
theorem rfield_no (w : World) (k : Nat) (hk : k < 256) (i : Int) (h : has k i = false) :
    Calls Tryd.prog 17 #[.int .u8 (k : Int), .int .i64 i] w fun e w' => e = .returned (.string (bstr5 [])) ∧ Fr Nobody w w' := by
  by_cases h0 : i < 0
  · clear h
    go_enter Tryd.func17, Tryd.ntmps17
    go_wp2
    go_ret
    exact ⟨rfl, Fr.refl _ _⟩
  · have h1 : (cnt k : Int) ≤ i := by simp [has] at h; omega
    clear h
    go_enter Tryd.func17, Tryd.ntmps17
    go_wp2_with fail
    refine (rcount_any w _ hk).mono ?_
    rintro e w' ⟨rfl, hf⟩
    have HF : Hid _ := hf
    clear hf
    generalize cnt k = c at *
    go_wp2
    go_ret
    exact ⟨rfl, HF.out⟩
set_option maxHeartbeats 4000000 in
theorem rfield_ok (w : World) (k j : Nat) (hj : j < cnt k) :
    Calls Tryd.prog 17 #[.int .u8 (k : Int), .int .i64 (j : Int)] w fun e w' => e = .returned (.string (bstr5 (fname k j))) ∧ Fr Nobody w w' := by
  rcases pairs k j hj with ⟨rfl, rfl | rfl⟩ | ⟨rfl, rfl | rfl⟩ | ⟨rfl, rfl⟩ | ⟨rfl, rfl | rfl | rfl⟩ | ⟨rfl, rfl | rfl | rfl⟩ | ⟨rfl, rfl | rfl | rfl⟩
  all_goals
    clear hj
    go_enter Tryd.func17, Tryd.ntmps17
    go_wp2_with fail
    refine (rcount_any w _ (by decide)).mono ?_
    rintro e w' ⟨rfl, hf⟩
    have HF : Hid _ := hf
    clear hf
    simp only [cnt, kinds]
    go_wp2
    go_ret
    exact ⟨rfl, ((((((HF.out.alloc _).alloc _).alloc _).alloc _).alloc _).alloc _).alloc _⟩
/-- the name of field i, empty where there is none -/
def fnameAt (k : Nat) (i : Int) : ByteArray := if has k i then bstr5 (fname k i.toNat) else bstr5 []
theorem rfield_any (w : World) (k : Nat) (hk : k < 256) (i : Int) :
    Calls Tryd.prog 17 #[.int .u8 (k : Int), .int .i64 i] w fun e w' => e = .returned (.string (fnameAt k i)) ∧ Fr Nobody w w' := by
  unfold fnameAt
  cases h : has k i with
  | false => rw [if_neg (by decide)]; exact rfield_no w k hk i h
  | true =>
    obtain ⟨j, rfl, hj, _, _⟩ := has_nat k i h
    rw [if_pos rfl, Int.toNat_natCast]
    exact rfield_ok w k j hj
/-- from, to and the error of field i -/
def rng (k : Nat) (i : Int) : Int × Int × Int := if has k i then (lo k i.toNat, hi k i.toNat, 0) else (0, 0, 1)
theorem range_any (w : World) (ht : Tab w) (k : Nat) (hk : k < 256) (i : Int) :
    Calls Tryd.prog 9 #[.int .u8 (k : Int), .int .i64 i] w fun e w' => e = .returned (.tuple #[.int .i32 (rng k i).1, .int .i32 (rng k i).2.1, .int .i64 (rng k i).2.2]) ∧ Fr Nobody w w' := by
  unfold rng
  cases h : has k i with
  | false => rw [if_neg (by decide)]; exact range_no w ht k hk i h
  | true =>
    obtain ⟨j, rfl, hj, _, _⟩ := has_nat k i h
    rw [if_pos rfl, Int.toNat_natCast]
    exact range_ok w ht k hk j hj
theorem rrange_any (w : World) (k : Nat) (hk : k < 256) (i : Int) :
    Calls Tryd.prog 10 #[.int .u8 (k : Int), .int .i64 i] w fun e w' => e = .returned (.tuple #[.int .i32 (rng k i).1, .int .i32 (rng k i).2.1, .int .i64 (rng k i).2.2]) ∧ Fr Nobody w w' := by
  unfold rng
  cases h : has k i with
  | false => rw [if_neg (by decide)]; exact rrange_no w k hk i h
  | true =>
    obtain ⟨j, rfl, hj, _, _⟩ := has_nat k i h
    rw [if_pos rfl, Int.toNat_natCast]
    exact rrange_ok w k j hj
end Go.Proofs.YtpmolkomnnpepaaDoor
