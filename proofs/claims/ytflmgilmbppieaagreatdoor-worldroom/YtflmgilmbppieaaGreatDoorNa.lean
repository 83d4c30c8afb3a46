/-
  math/bits.Len64, and span, Width, groups, Zig and Zag of package nums.
-/
import Derived.Test.YtflmgilmbppieaaGreatDoorWg
import Derived.Lib.BitFns
import Derived.Lib.Walk
import Derived.Lib.Small
namespace Go.Proofs.YtflmgilmbppieaaGreatDoor
open Go.RowKit
set_option linter.unusedVariables false

theorem len_byte (x s : Nat) (hx : x < 18446744073709551616) (hs : s = 0 ∨ 2 ^ s ≤ x) (hb : x / 2 ^ s ≤ 255) (b : Int) (e : b = ((x / 2 ^ s : Nat) : Int)) : ∃ l : Nat, l ≤ 8 ∧ Lib.len8 b = (l : Int) ∧ s + l = Lib.bitLen x := by
  have h : b.toNat = x / 2 ^ s := by rw [e, Int.toNat_natCast]
  have hb0 : 0 ≤ b := by rw [e]; exact Int.natCast_nonneg _
  have hb1 : b ≤ 255 := by rw [e]; exact Int.ofNat_le.2 hb
  refine ⟨Lib.bitLen b.toNat, Lib.bitLen_le8' b hb0 hb1, Lib.len8_of b hb0 hb1, ?_⟩
  rw [h]
  rcases hs with rfl | hs
  · simp
  · exact (Lib.bitLen_shift s x hs hx).symm

set_option maxHeartbeats 400000 in
set_option maxRecDepth 100000 in
theorem len64_111 (x : Int) (l : Nat) (w : World) (h0 : 0 ≤ x) (h1 : x ≤ 18446744073709551615) (t0 : 4294967296 ≤ x) (t1 : 65536 ≤ x / 4294967296) (t2 : 256 ≤ x / 4294967296 / 65536) (b0 : 0 ≤ x / 4294967296 / 65536 / 256) (b1 : x / 4294967296 / 65536 / 256 ≤ 255) (hl : l ≤ 8) (hL : Lib.len8 (x / 4294967296 / 65536 / 256) = (l : Int)) :
    Calls Tryz.prog 197 #[.int .u64 x] w fun e w' => e = .returned (.int .i64 (56 + (l : Int))) ∧ w' = w := by
  go_enter Tryz.func197, Tryz.ntmps197
  go_wp2
  go_ret
  exact ⟨ret_int (by omega), rfl⟩
set_option maxHeartbeats 400000 in
set_option maxRecDepth 100000 in
theorem len64_110 (x : Int) (l : Nat) (w : World) (h0 : 0 ≤ x) (h1 : x ≤ 18446744073709551615) (t0 : 4294967296 ≤ x) (t1 : 65536 ≤ x / 4294967296) (t2 : x / 4294967296 / 65536 < 256) (b0 : 0 ≤ x / 4294967296 / 65536) (b1 : x / 4294967296 / 65536 ≤ 255) (hl : l ≤ 8) (hL : Lib.len8 (x / 4294967296 / 65536) = (l : Int)) :
    Calls Tryz.prog 197 #[.int .u64 x] w fun e w' => e = .returned (.int .i64 (48 + (l : Int))) ∧ w' = w := by
  go_enter Tryz.func197, Tryz.ntmps197
  go_wp2
  go_ret
  exact ⟨ret_int (by omega), rfl⟩
set_option maxHeartbeats 400000 in
set_option maxRecDepth 100000 in
theorem len64_101 (x : Int) (l : Nat) (w : World) (h0 : 0 ≤ x) (h1 : x ≤ 18446744073709551615) (t0 : 4294967296 ≤ x) (t1 : x / 4294967296 < 65536) (t2 : 256 ≤ x / 4294967296) (b0 : 0 ≤ x / 4294967296 / 256) (b1 : x / 4294967296 / 256 ≤ 255) (hl : l ≤ 8) (hL : Lib.len8 (x / 4294967296 / 256) = (l : Int)) :
    Calls Tryz.prog 197 #[.int .u64 x] w fun e w' => e = .returned (.int .i64 (40 + (l : Int))) ∧ w' = w := by
  go_enter Tryz.func197, Tryz.ntmps197
  go_wp2
  go_ret
  exact ⟨ret_int (by omega), rfl⟩
set_option maxHeartbeats 400000 in
set_option maxRecDepth 100000 in
theorem len64_100 (x : Int) (l : Nat) (w : World) (h0 : 0 ≤ x) (h1 : x ≤ 18446744073709551615) (t0 : 4294967296 ≤ x) (t1 : x / 4294967296 < 65536) (t2 : x / 4294967296 < 256) (b0 : 0 ≤ x / 4294967296) (b1 : x / 4294967296 ≤ 255) (hl : l ≤ 8) (hL : Lib.len8 (x / 4294967296) = (l : Int)) :
    Calls Tryz.prog 197 #[.int .u64 x] w fun e w' => e = .returned (.int .i64 (32 + (l : Int))) ∧ w' = w := by
  go_enter Tryz.func197, Tryz.ntmps197
  go_wp2
  go_ret
  exact ⟨ret_int (by omega), rfl⟩
set_option maxHeartbeats 400000 in
set_option maxRecDepth 100000 in
theorem len64_011 (x : Int) (l : Nat) (w : World) (h0 : 0 ≤ x) (h1 : x ≤ 18446744073709551615) (t0 : x < 4294967296) (t1 : 65536 ≤ x) (t2 : 256 ≤ x / 65536) (b0 : 0 ≤ x / 65536 / 256) (b1 : x / 65536 / 256 ≤ 255) (hl : l ≤ 8) (hL : Lib.len8 (x / 65536 / 256) = (l : Int)) :
    Calls Tryz.prog 197 #[.int .u64 x] w fun e w' => e = .returned (.int .i64 (24 + (l : Int))) ∧ w' = w := by
  go_enter Tryz.func197, Tryz.ntmps197
  go_wp2
  go_ret
  exact ⟨ret_int (by omega), rfl⟩
set_option maxHeartbeats 400000 in
set_option maxRecDepth 100000 in
theorem len64_010 (x : Int) (l : Nat) (w : World) (h0 : 0 ≤ x) (h1 : x ≤ 18446744073709551615) (t0 : x < 4294967296) (t1 : 65536 ≤ x) (t2 : x / 65536 < 256) (b0 : 0 ≤ x / 65536) (b1 : x / 65536 ≤ 255) (hl : l ≤ 8) (hL : Lib.len8 (x / 65536) = (l : Int)) :
    Calls Tryz.prog 197 #[.int .u64 x] w fun e w' => e = .returned (.int .i64 (16 + (l : Int))) ∧ w' = w := by
  go_enter Tryz.func197, Tryz.ntmps197
  go_wp2
  go_ret
  exact ⟨ret_int (by omega), rfl⟩
set_option maxHeartbeats 400000 in
set_option maxRecDepth 100000 in
theorem len64_001 (x : Int) (l : Nat) (w : World) (h0 : 0 ≤ x) (h1 : x ≤ 18446744073709551615) (t0 : x < 4294967296) (t1 : x < 65536) (t2 : 256 ≤ x) (b0 : 0 ≤ x / 256) (b1 : x / 256 ≤ 255) (hl : l ≤ 8) (hL : Lib.len8 (x / 256) = (l : Int)) :
    Calls Tryz.prog 197 #[.int .u64 x] w fun e w' => e = .returned (.int .i64 (8 + (l : Int))) ∧ w' = w := by
  go_enter Tryz.func197, Tryz.ntmps197
  go_wp2
  go_ret
  exact ⟨ret_int (by omega), rfl⟩
set_option maxHeartbeats 400000 in
set_option maxRecDepth 100000 in
theorem len64_000 (x : Int) (l : Nat) (w : World) (h0 : 0 ≤ x) (h1 : x ≤ 18446744073709551615) (t0 : x < 4294967296) (t1 : x < 65536) (t2 : x < 256) (b0 : 0 ≤ x) (b1 : x ≤ 255) (hl : l ≤ 8) (hL : Lib.len8 (x) = (l : Int)) :
    Calls Tryz.prog 197 #[.int .u64 x] w fun e w' => e = .returned (.int .i64 (0 + (l : Int))) ∧ w' = w := by
  go_enter Tryz.func197, Tryz.ntmps197
  go_wp2
  go_ret
  exact ⟨ret_int (by omega), rfl⟩

theorem len64_any (x : Nat) (w : World) (hx : x < 18446744073709551616) :
    Calls Tryz.prog 197 #[.int .u64 x] w fun e w' => e = .returned (.int .i64 ((Lib.bitLen x : Nat) : Int)) ∧ w' = w := by
  have fin : ∀ (s l : Nat), s + l = Lib.bitLen x → Calls Tryz.prog 197 #[.int .u64 x] w (fun e w' => e = .returned (.int .i64 ((s : Int) + (l : Int))) ∧ w' = w) → Calls Tryz.prog 197 #[.int .u64 x] w fun e w' => e = .returned (.int .i64 ((Lib.bitLen x : Nat) : Int)) ∧ w' = w := by
    intro s l hsl hc
    refine hc.mono ?_
    rintro e w' ⟨rfl, rfl⟩
    exact ⟨ret_int (by omega), rfl⟩
  by_cases t0 : 4294967296 ≤ x
  · skip
    by_cases t1 : 65536 ≤ x / 4294967296
    · skip
      by_cases t2 : 256 ≤ x / 4294967296 / 65536
      · skip
        obtain ⟨l, hl, hL, hsl⟩ := len_byte x 56 hx (.inr (by omega)) (by omega) ((x : Int) / 4294967296 / 65536 / 256) (by omega)
        exact fin 56 l hsl (len64_111 x l w (by omega) (by omega) (by omega) (by omega) (by omega) (by omega) (by omega) hl hL)
      · skip
        obtain ⟨l, hl, hL, hsl⟩ := len_byte x 48 hx (.inr (by omega)) (by omega) ((x : Int) / 4294967296 / 65536) (by omega)
        exact fin 48 l hsl (len64_110 x l w (by omega) (by omega) (by omega) (by omega) (by omega) (by omega) (by omega) hl hL)
    · skip
      by_cases t2 : 256 ≤ x / 4294967296
      · skip
        obtain ⟨l, hl, hL, hsl⟩ := len_byte x 40 hx (.inr (by omega)) (by omega) ((x : Int) / 4294967296 / 256) (by omega)
        exact fin 40 l hsl (len64_101 x l w (by omega) (by omega) (by omega) (by omega) (by omega) (by omega) (by omega) hl hL)
      · skip
        obtain ⟨l, hl, hL, hsl⟩ := len_byte x 32 hx (.inr (by omega)) (by omega) ((x : Int) / 4294967296) (by omega)
        exact fin 32 l hsl (len64_100 x l w (by omega) (by omega) (by omega) (by omega) (by omega) (by omega) (by omega) hl hL)
  · skip
    by_cases t1 : 65536 ≤ x
    · skip
      by_cases t2 : 256 ≤ x / 65536
      · skip
        obtain ⟨l, hl, hL, hsl⟩ := len_byte x 24 hx (.inr (by omega)) (by omega) ((x : Int) / 65536 / 256) (by omega)
        exact fin 24 l hsl (len64_011 x l w (by omega) (by omega) (by omega) (by omega) (by omega) (by omega) (by omega) hl hL)
      · skip
        obtain ⟨l, hl, hL, hsl⟩ := len_byte x 16 hx (.inr (by omega)) (by omega) ((x : Int) / 65536) (by omega)
        exact fin 16 l hsl (len64_010 x l w (by omega) (by omega) (by omega) (by omega) (by omega) (by omega) (by omega) hl hL)
    · skip
      by_cases t2 : 256 ≤ x
      · skip
        obtain ⟨l, hl, hL, hsl⟩ := len_byte x 8 hx (.inr (by omega)) (by omega) ((x : Int) / 256) (by omega)
        exact fin 8 l hsl (len64_001 x l w (by omega) (by omega) (by omega) (by omega) (by omega) (by omega) (by omega) hl hL)
      · skip
        obtain ⟨l, hl, hL, hsl⟩ := len_byte x 0 hx (.inl rfl) (by omega) ((x : Int)) (by omega)
        exact fin 0 l hsl (len64_000 x l w (by omega) (by omega) (by omega) (by omega) (by omega) (by omega) (by omega) hl hL)

end Go.Proofs.YtflmgilmbppieaaGreatDoor
