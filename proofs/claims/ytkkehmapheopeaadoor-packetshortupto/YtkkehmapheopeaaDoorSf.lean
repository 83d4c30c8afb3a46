/-
  Bits of package schema and of the document; the document's Field and Range where there is none.
-/
import Derived.Test.YtkkehmapheopeaaDoorSe
import Derived.Test.YtkkehmapheopeaaDoorRd
import Derived.Deep.RegionWith
namespace Go.Proofs.YtkkehmapheopeaaDoor
open Go.RowKit
set_option linter.unusedVariables false

set_option maxHeartbeats 1000000 in
theorem rrange_no (w : World) (k : Nat) (hk : k < 256) (i : Int) (h : has k i = false) :
    Calls Tryd.prog 42 #[.int .u8 (k : Int), .int .i64 i] w fun e w' => e = .returned (.tuple #[.int .i32 0, .int .i32 0, .int .i64 1]) ∧ Fr Nobody w w' := by
  by_cases h0 : i < 0
  · clear h
    go_enter Tryd.func42, Tryd.ntmps42
    go_wp2
    go_ret3
    exact ⟨rfl, Fr.refl _ _⟩
  · have h1 : (cnt k : Int) ≤ i := by simp [has] at h; omega
    clear h
    go_enter Tryd.func42, Tryd.ntmps42
    go_wp2_with fail
    refine (rcount_any w _ hk).mono ?_
    rintro e w' ⟨rfl, hf⟩
    have HF : Hid _ := hf
    clear hf
    generalize cnt k = c at *
    go_wp2
    go_ret3
    exact ⟨rfl, HF.out⟩

/-- the bits of the fields from the first on, so many -/
def wd (k j : Nat) : Nat := wid (lo k j) (hi k j)
def bsum (k : Nat) : Nat → Nat
  | 0 => 0
  | n + 1 => bsum k n + wd k n
def bitsK (k : Nat) : Nat := bsum k (cnt k)

theorem rng_ok (k j : Nat) (h : j < cnt k) : -524288 ≤ lo k j ∧ lo k j ≤ 1 ∧ 7 ≤ hi k j ∧ hi k j ≤ 524287 := by
  rcases pairs k j h with ⟨rfl, rfl | rfl⟩ | ⟨rfl, rfl | rfl⟩ | ⟨rfl, rfl⟩ | ⟨rfl, rfl | rfl | rfl⟩ | ⟨rfl, rfl | rfl | rfl⟩ | ⟨rfl, rfl | rfl | rfl⟩ <;> decide
theorem wd_le (k j : Nat) (h : j < cnt k) : 3 ≤ wd k j ∧ wd k j ≤ 20 := by
  rcases pairs k j h with ⟨rfl, rfl | rfl⟩ | ⟨rfl, rfl | rfl⟩ | ⟨rfl, rfl⟩ | ⟨rfl, rfl | rfl | rfl⟩ | ⟨rfl, rfl | rfl | rfl⟩ | ⟨rfl, rfl | rfl | rfl⟩ <;> decide +kernel
theorem bsum_le (k n : Nat) (h : n ≤ cnt k) : bsum k n ≤ 20 * n := by
  induction n with
  | zero => simp [bsum]
  | succ n ih =>
    have := ih (by omega)
    have := wd_le k n (by omega)
    simp only [bsum]; omega

set_option maxHeartbeats 1000000 in
set_option maxRecDepth 100000 in
theorem bits_any (w : World) (ht : Tab w) (k : Nat) (hk : k < 256) :
    Calls Tryd.prog 82 #[.int .u8 (k : Int)] w fun e w' => e = .returned (.int .i64 ((bitsK k : Nat) : Int)) ∧ Fr Nobody w w' := by
  have H : Hid (Tab w) := ht
  clear ht
  have hc := cnt_le k
  obtain ⟨c, ec⟩ : ∃ c, cnt k = c := ⟨_, rfl⟩
  have EC : Hid (cnt k = c) := ec
  rw [ec] at hc
  clear ec
  have EB : Hid (bitsK k = bsum k c) := by show _ = _; rw [bitsK, EC.out]
  go_enter Tryd.func82, Tryd.ntmps82
  go_wp2_with fail
  refine (count_any w H.out k hk).mono ?_
  rintro e w' ⟨rfl, rfl⟩
  rw [EC.out]
  go_wp2
  go_loopw [3, 7] (fun a b wr => ∃ j : Nat, j ≤ c ∧ b = .int .i64 j ∧ a = .int .i64 (bsum k j : Nat) ∧ Fr Nobody w' wr) (fun _ b _ => c - (intOf b).toNat)
  case atStart => exact ⟨0, by omega, rfl, rfl, Fr.refl _ _⟩
  case round =>
    obtain ⟨j, hj, rfl, rfl, hf⟩ := hrel
    have HF : Hid (Fr Nobody w' wr) := hf
    clear hf
    by_cases hlt : j < c
    · have hjc : j < cnt k := by rw [EC.out]; exact hlt
      obtain ⟨l0, l1, l2, l3⟩ := rng_ok k j hjc
      have h6 : k < 6 := by
        rcases Nat.lt_or_ge k 6 with h | h
        · exact h
        · rw [cnt_out k h] at hjc; omega
      have hx := (H.out.quiet HF.out).lo k j h6 (by omega)
      have hy := (H.out.quiet HF.out).hi k j h6 (by omega)
      have hb := bsum_le k j (by omega)
      have HW : Hid (∀ w, Calls Tryd.prog 61 #[.int .i64 (lo k j), .int .i64 (hi k j)] w fun e w' => e = .returned (.int .i64 (wd k j : Nat)) ∧ w' = w) := fun w => width_any (lo k j) (hi k j) w (by omega) (by omega) (by omega) (by omega)
      have hw := wd_le k j hjc
      have HS : Hid (bsum k (j + 1) = bsum k j + wd k j) := rfl
      generalize lo k j = x at *
      generalize hi k j = y at *
      generalize wd k j = z at *
      generalize bsum k j = s at *
      clear hjc
      go_wp2
      go_quiet (refine Calls.quiet_of_same (HW.out _))
      have HF2 : Hid (Fr Nobody w' (wr.drewN nq)) := HF.out.drewN nq
      go_wp2
      go_roundw
      case rel => exact ⟨j + 1, by omega, by go_num, by rw [HS.out]; go_num, HF2.out⟩
      case measure => simp [intOf]; omega
    · have e : j = c := by omega
      subst e
      go_wp2
      go_ret
      exact ⟨by rw [EB.out]; rfl, HF.out⟩

end Go.Proofs.YtkkehmapheopeaaDoor

