/-
  What Put does to a writer.
-/
import Derived.Test.YtlncgkbgelejmaaGreatDoorWc
namespace Go.Proofs.YtlncgkbgelejmaaGreatDoor
open Go.RowKit
set_option linter.unusedVariables false

set_option maxHeartbeats 400000 in
theorem put_nil (w : World) (v n : Int) : Calls Tryz.prog 92 #[.pointer none, .int .u64 v, .int .i64 n] w fun e w' => e = .returned (.int .i64 10) ∧ w' = w := by
  go_enter Tryz.func92, Tryz.ntmps92
  go_wp2
  go_ret
  exact ⟨rfl, rfl⟩

set_option maxHeartbeats 400000 in
theorem put_arg (w : World) (b : Nat) (v n : Int) (h : n < 0 ∨ 64 < n) : Calls Tryz.prog 92 #[.pointer (some ⟨b, 0, none⟩), .int .u64 v, .int .i64 n] w fun e w' => e = .returned (.int .i64 1) ∧ w' = w := by
  rcases h with h | h
  · go_enter Tryz.func92, Tryz.ntmps92
    go_wp2
    go_ret
    exact ⟨rfl, rfl⟩
  · have h0 : ¬ n < 0 := by omega
    go_enter Tryz.func92, Tryz.ntmps92
    go_wp2
    go_ret
    exact ⟨rfl, rfl⟩

theorem bit_val (v k : Nat) (hv : v < 18446744073709551616) : bits .and .u64 ((v : Int) / 2 ^ k) 1 % 256 = (((v / 2 ^ k % 2 == 1) : Bool).toNat : Int) := by
  have h2 : ((v : Int) / 2 ^ k) = ((v / 2 ^ k : Nat) : Int) := by simp
  have hle : v / 2 ^ k ≤ v := Nat.div_le_self _ _
  have h3 := u64_and_nat (v / 2 ^ k) 1 (by omega) (by decide)
  rw [h2]
  have h1 : ((1 : Nat) : Int) = 1 := rfl
  rw [h1] at h3
  rw [h3, nat_mask1]
  have hc : v / 2 ^ k % 2 = 0 ∨ v / 2 ^ k % 2 = 1 := by omega
  rcases hc with hc | hc <;> rw [hc] <;> rfl

theorem shr_ne (v n : Nat) (h : 2 ^ n ≤ v) : ((v : Int) / 2 ^ n != 0) = true := by
  have h1 : 0 < v / 2 ^ n := Nat.div_pos h (Nat.two_pow_pos _)
  have h2 : ((v : Int) / 2 ^ n) = ((v / 2 ^ n : Nat) : Int) := by simp
  rw [h2, bne_iff_ne]; omega
theorem shr_eq (v n : Nat) (h : v < 2 ^ n) : ((v : Int) / 2 ^ n != 0) = false := by
  have h1 : v / 2 ^ n = 0 := Nat.div_eq_of_lt h
  have h2 : ((v : Int) / 2 ^ n) = ((v / 2 ^ n : Nat) : Int) := by simp
  rw [h2, h1]; rfl

set_option maxHeartbeats 400000 in
theorem put_range (w : World) (b v n : Nat) (hn : n ≤ 64) (hv : 2 ^ n ≤ v) (hv2 : v < 18446744073709551616) : Calls Tryz.prog 92 #[.pointer (some ⟨b, 0, none⟩), .int .u64 v, .int .i64 n] w fun e w' => e = .returned (.int .i64 5) ∧ w' = w := by
  have h0 : ¬ (n : Int) < 0 := by omega
  have h1 : ¬ (64 : Int) < (n : Int) := by omega
  have h2 := shr_ne v n hv
  go_enter Tryz.func92, Tryz.ntmps92
  go_wp2
  go_ret
  exact ⟨rfl, rfl⟩

set_option maxHeartbeats 400000 in
theorem put_long (B : Nat) (w : World) (b : Nat) (g : Option Nat) (L : List Bool) (v n : Nat) (h : Wr B w b g L) (hn : n ≤ 64) (hv : v < 2 ^ n) (hv2 : v < 18446744073709551616) (hl : L.length ≤ 1048576) (hl2 : 1048576 < L.length + n) :
    Calls Tryz.prog 92 #[.pointer (some ⟨b, 0, none⟩), .int .u64 v, .int .i64 n] w fun e w' => e = .returned (.int .i64 3) ∧ w' = w := by
  have h0 : ¬ (n : Int) < 0 := by omega
  have h1 : ¬ (64 : Int) < (n : Int) := by omega
  have h2 := shr_eq v n hv
  have h3 : (1048576 : Int) - (L.length : Int) < (n : Int) := by omega
  obtain ⟨u, hb, _⟩ := h.obj
  have c1 := cell1 hb
  clear hb h
  go_enter Tryz.func92, Tryz.ntmps92
  go_wp2
  go_ret
  exact ⟨rfl, rfl⟩

set_option maxHeartbeats 400000 in
theorem put_ok (B : Nat) (w : World) (b : Nat) (g : Option Nat) (L : List Bool) (v n : Nat) (h : Wr B w b g L) (hn : n ≤ 64) (hv : v < 2 ^ n) (hv2 : v < 18446744073709551616) (hl : L.length + n ≤ 1048576) :
    Calls Tryz.prog 92 #[.pointer (some ⟨b, 0, none⟩), .int .u64 v, .int .i64 n] w fun e w' => e = .returned (.int .i64 0) ∧ ∃ g', Wr B w' b g' (L ++ bitsN n v) ∧ Step w b g w' g' := by
  have h0 : ¬ (n : Int) < 0 := by omega
  have h1 : ¬ (64 : Int) < (n : Int) := by omega
  have h2 := shr_eq v n hv
  have h3 : ¬ (1048576 : Int) - (L.length : Int) < (n : Int) := by omega
  obtain ⟨u, hb, _⟩ := h.obj
  have c1 := cell1 hb
  have H : Hid (Wr B w b g L) := h
  clear hb h
  go_enter Tryz.func92, Tryz.ntmps92
  go_wp2
  clear c1 h0 h1 h2 h3
  go_loopw [32] (fun c wr => ∃ k : Nat, k ≤ n ∧ c = .int .i64 k ∧ ∃ g', Wr B wr b g' (L ++ bitsN k v) ∧ Step w b g wr g') (fun c _ => n - (intOf c).toNat)
  case atStart => exact ⟨0, Nat.zero_le _, rfl, g, by simpa [bitsN] using H.out, Step.refl _ _ _⟩
  case round =>
    obtain ⟨k, hk, rfl, g', hW, hS⟩ := hrel
    by_cases hlt : k < n
    · go_wp2_with fail
      refine (add_any B wr b g' (L ++ bitsN k v) (v / 2 ^ k % 2 == 1) _ (bit_val v k hv2) hW (by rw [List.length_append, length_bitsN]; omega)).mono ?_
      rintro e w1 ⟨rfl, g1, hW1, hS1⟩
      have HW : Hid (∃ g', Wr B w1 b g' (L ++ bitsN (k + 1) v) ∧ Step w b g w1 g') := ⟨g1, by rw [bitsN_snoc, ← List.append_assoc]; exact hW1, hS.trans hS1⟩
      clear hW hS hW1 hS1 H
      go_wp2
      go_roundw
      case rel => exact ⟨k + 1, by omega, by go_num, HW.out⟩
      case measure => simp [intOf]; omega
    · go_wp2
      go_ret
      have e : k = n := by omega
      subst e
      exact ⟨rfl, g', hW, hS⟩

end Go.Proofs.YtlncgkbgelejmaaGreatDoor

