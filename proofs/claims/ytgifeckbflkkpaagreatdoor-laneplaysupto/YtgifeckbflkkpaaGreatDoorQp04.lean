/- math/bits.Len64, and span, Width, groups, Zig and Zag of package nums. -/
import Derived.Test.YtgifeckbflkkpaaGreatDoorQp03
import Derived.Lib.BitFns
import Derived.Lib.Walk
import Derived.Lib.Small
namespace Go.Proofs.YtgifeckbflkkpaaGreatDoor
open Go.RowKit
set_option linter.unusedVariables false
set_option maxHeartbeats 400000
theorem len_byte (x s : Nat) (hx : x < 18446744073709551616) (hs : s = 0 ∨ 2 ^ s ≤ x) (hb : x / 2 ^ s ≤ 255) (b : Int) (e : b = ((x / 2 ^ s : Nat) : Int)) : ∃ l : Nat,l ≤ 8 ∧ Lib.len8 b = (l : Int) ∧ s + l = Lib.bitLen x := by
 have h : b.toNat = x / 2 ^ s := by rw [e,Int.toNat_natCast]
 have hb0 : 0 ≤ b := by rw [e]; exact Int.natCast_nonneg _
 have hb1 : b ≤ 255 := by rw [e]; exact Int.ofNat_le.2 hb
 refine ⟨Lib.bitLen b.toNat,Lib.bitLen_le8' b hb0 hb1,Lib.len8_of b hb0 hb1,?_⟩
 rw [h]
 rcases hs with rfl | hs
 ·simp
 ·exact (Lib.bitLen_shift s x hs hx).symm
set_option maxRecDepth 100000 in
theorem len64_111 (x : Int) (l : Nat) (w : World) (h0 : 0 ≤ x) (h1 : x ≤ 18446744073709551615) (t0 : 4294967296 ≤ x) (t1 : 65536 ≤ x / 4294967296) (t2 : 256 ≤ x / 4294967296 / 65536) (b0 : 0 ≤ x / 4294967296 / 65536 / 256) (b1 : x / 4294967296 / 65536 / 256 ≤ 255) (hl : l ≤ 8) (hL : Lib.len8 (x / 4294967296 / 65536 / 256) = (l : Int)) :
  Calls Tryz.prog 186 #[.int .u64 x] w fun e w' => e = .returned (.int .i64 (56 + (l : Int))) ∧ w' = w := by
 go_enter Tryz.func186,Tryz.ntmps186
 go_wp2
 go_ret
 exact ⟨ret_int (by omega),rfl⟩
set_option maxRecDepth 100000 in
theorem len64_110 (x : Int) (l : Nat) (w : World) (h0 : 0 ≤ x) (h1 : x ≤ 18446744073709551615) (t0 : 4294967296 ≤ x) (t1 : 65536 ≤ x / 4294967296) (t2 : x / 4294967296 / 65536 < 256) (b0 : 0 ≤ x / 4294967296 / 65536) (b1 : x / 4294967296 / 65536 ≤ 255) (hl : l ≤ 8) (hL : Lib.len8 (x / 4294967296 / 65536) = (l : Int)) :
  Calls Tryz.prog 186 #[.int .u64 x] w fun e w' => e = .returned (.int .i64 (48 + (l : Int))) ∧ w' = w := by
 go_enter Tryz.func186,Tryz.ntmps186
 go_wp2
 go_ret
 exact ⟨ret_int (by omega),rfl⟩
set_option maxRecDepth 100000 in
theorem len64_101 (x : Int) (l : Nat) (w : World) (h0 : 0 ≤ x) (h1 : x ≤ 18446744073709551615) (t0 : 4294967296 ≤ x) (t1 : x / 4294967296 < 65536) (t2 : 256 ≤ x / 4294967296) (b0 : 0 ≤ x / 4294967296 / 256) (b1 : x / 4294967296 / 256 ≤ 255) (hl : l ≤ 8) (hL : Lib.len8 (x / 4294967296 / 256) = (l : Int)) :
  Calls Tryz.prog 186 #[.int .u64 x] w fun e w' => e = .returned (.int .i64 (40 + (l : Int))) ∧ w' = w := by
 go_enter Tryz.func186,Tryz.ntmps186
 go_wp2
 go_ret
 exact ⟨ret_int (by omega),rfl⟩
set_option maxRecDepth 100000 in
theorem len64_100 (x : Int) (l : Nat) (w : World) (h0 : 0 ≤ x) (h1 : x ≤ 18446744073709551615) (t0 : 4294967296 ≤ x) (t1 : x / 4294967296 < 65536) (t2 : x / 4294967296 < 256) (b0 : 0 ≤ x / 4294967296) (b1 : x / 4294967296 ≤ 255) (hl : l ≤ 8) (hL : Lib.len8 (x / 4294967296) = (l : Int)) :
  Calls Tryz.prog 186 #[.int .u64 x] w fun e w' => e = .returned (.int .i64 (32 + (l : Int))) ∧ w' = w := by
 go_enter Tryz.func186,Tryz.ntmps186
 go_wp2
 go_ret
 exact ⟨ret_int (by omega),rfl⟩
set_option maxRecDepth 100000 in
theorem len64_011 (x : Int) (l : Nat) (w : World) (h0 : 0 ≤ x) (h1 : x ≤ 18446744073709551615) (t0 : x < 4294967296) (t1 : 65536 ≤ x) (t2 : 256 ≤ x / 65536) (b0 : 0 ≤ x / 65536 / 256) (b1 : x / 65536 / 256 ≤ 255) (hl : l ≤ 8) (hL : Lib.len8 (x / 65536 / 256) = (l : Int)) :
  Calls Tryz.prog 186 #[.int .u64 x] w fun e w' => e = .returned (.int .i64 (24 + (l : Int))) ∧ w' = w := by
 go_enter Tryz.func186,Tryz.ntmps186
 go_wp2
 go_ret
 exact ⟨ret_int (by omega),rfl⟩
set_option maxRecDepth 100000 in
theorem len64_010 (x : Int) (l : Nat) (w : World) (h0 : 0 ≤ x) (h1 : x ≤ 18446744073709551615) (t0 : x < 4294967296) (t1 : 65536 ≤ x) (t2 : x / 65536 < 256) (b0 : 0 ≤ x / 65536) (b1 : x / 65536 ≤ 255) (hl : l ≤ 8) (hL : Lib.len8 (x / 65536) = (l : Int)) :
  Calls Tryz.prog 186 #[.int .u64 x] w fun e w' => e = .returned (.int .i64 (16 + (l : Int))) ∧ w' = w := by
 go_enter Tryz.func186,Tryz.ntmps186
 go_wp2
 go_ret
 exact ⟨ret_int (by omega),rfl⟩
set_option maxRecDepth 100000 in
theorem len64_001 (x : Int) (l : Nat) (w : World) (h0 : 0 ≤ x) (h1 : x ≤ 18446744073709551615) (t0 : x < 4294967296) (t1 : x < 65536) (t2 : 256 ≤ x) (b0 : 0 ≤ x / 256) (b1 : x / 256 ≤ 255) (hl : l ≤ 8) (hL : Lib.len8 (x / 256) = (l : Int)) :
  Calls Tryz.prog 186 #[.int .u64 x] w fun e w' => e = .returned (.int .i64 (8 + (l : Int))) ∧ w' = w := by
 go_enter Tryz.func186,Tryz.ntmps186
 go_wp2
 go_ret
 exact ⟨ret_int (by omega),rfl⟩
set_option maxRecDepth 100000 in
theorem len64_000 (x : Int) (l : Nat) (w : World) (h0 : 0 ≤ x) (h1 : x ≤ 18446744073709551615) (t0 : x < 4294967296) (t1 : x < 65536) (t2 : x < 256) (b0 : 0 ≤ x) (b1 : x ≤ 255) (hl : l ≤ 8) (hL : Lib.len8 (x) = (l : Int)) :
  Calls Tryz.prog 186 #[.int .u64 x] w fun e w' => e = .returned (.int .i64 (0 + (l : Int))) ∧ w' = w := by
 go_enter Tryz.func186,Tryz.ntmps186
 go_wp2
 go_ret
 exact ⟨ret_int (by omega),rfl⟩
theorem len64_any (x : Nat) (w : World) (hx : x < 18446744073709551616) :
  Calls Tryz.prog 186 #[.int .u64 x] w fun e w' => e = .returned (.int .i64 ((Lib.bitLen x : Nat) : Int)) ∧ w' = w := by
 have fin : ∀ (s l : Nat),s + l = Lib.bitLen x → Calls Tryz.prog 186 #[.int .u64 x] w (fun e w' => e = .returned (.int .i64 ((s : Int) + (l : Int))) ∧ w' = w) → Calls Tryz.prog 186 #[.int .u64 x] w fun e w' => e = .returned (.int .i64 ((Lib.bitLen x : Nat) : Int)) ∧ w' = w := by
  intro s l hsl hc
  refine hc.mono ?_
  rintro e w' ⟨rfl,rfl⟩
  exact ⟨ret_int (by omega),rfl⟩
 by_cases t0 : 4294967296 ≤ x
 ·skip
  by_cases t1 : 65536 ≤ x / 4294967296
  ·skip
   by_cases t2 : 256 ≤ x / 4294967296 / 65536
   ·skip
    obtain ⟨l,hl,hL,hsl⟩ := len_byte x 56 hx (.inr (by omega)) (by omega) ((x : Int) / 4294967296 / 65536 / 256) (by omega)
    exact fin 56 l hsl (len64_111 x l w (by omega) (by omega) (by omega) (by omega) (by omega) (by omega) (by omega) hl hL)
   ·skip
    obtain ⟨l,hl,hL,hsl⟩ := len_byte x 48 hx (.inr (by omega)) (by omega) ((x : Int) / 4294967296 / 65536) (by omega)
    exact fin 48 l hsl (len64_110 x l w (by omega) (by omega) (by omega) (by omega) (by omega) (by omega) (by omega) hl hL)
  ·skip
   by_cases t2 : 256 ≤ x / 4294967296
   ·skip
    obtain ⟨l,hl,hL,hsl⟩ := len_byte x 40 hx (.inr (by omega)) (by omega) ((x : Int) / 4294967296 / 256) (by omega)
    exact fin 40 l hsl (len64_101 x l w (by omega) (by omega) (by omega) (by omega) (by omega) (by omega) (by omega) hl hL)
   ·skip
    obtain ⟨l,hl,hL,hsl⟩ := len_byte x 32 hx (.inr (by omega)) (by omega) ((x : Int) / 4294967296) (by omega)
    exact fin 32 l hsl (len64_100 x l w (by omega) (by omega) (by omega) (by omega) (by omega) (by omega) (by omega) hl hL)
 ·skip
  by_cases t1 : 65536 ≤ x
  ·skip
   by_cases t2 : 256 ≤ x / 65536
   ·skip
    obtain ⟨l,hl,hL,hsl⟩ := len_byte x 24 hx (.inr (by omega)) (by omega) ((x : Int) / 65536 / 256) (by omega)
    exact fin 24 l hsl (len64_011 x l w (by omega) (by omega) (by omega) (by omega) (by omega) (by omega) (by omega) hl hL)
   ·skip
    obtain ⟨l,hl,hL,hsl⟩ := len_byte x 16 hx (.inr (by omega)) (by omega) ((x : Int) / 65536) (by omega)
    exact fin 16 l hsl (len64_010 x l w (by omega) (by omega) (by omega) (by omega) (by omega) (by omega) (by omega) hl hL)
  ·skip
   by_cases t2 : 256 ≤ x
   ·skip
    obtain ⟨l,hl,hL,hsl⟩ := len_byte x 8 hx (.inr (by omega)) (by omega) ((x : Int) / 256) (by omega)
    exact fin 8 l hsl (len64_001 x l w (by omega) (by omega) (by omega) (by omega) (by omega) (by omega) (by omega) hl hL)
   ·skip
    obtain ⟨l,hl,hL,hsl⟩ := len_byte x 0 hx (.inl rfl) (by omega) ((x : Int)) (by omega)
    exact fin 0 l hsl (len64_000 x l w (by omega) (by omega) (by omega) (by omega) (by omega) (by omega) (by omega) hl hL)
theorem wrapU (n : Int) : IntKind.u64.wrap n = n % 18446744073709551616 := IntKind.wrap_u64 n
theorem span_any (lo hi : Int) (d : Nat) (w : World) (h0 : -9223372036854775808 ≤ lo) (h1 : hi ≤ 9223372036854775807) (hd : hi = lo + (d : Int)) :
  Calls Tryz.prog 166 #[.int .i64 lo,.int .i64 hi] w fun e w' => e = .returned (.int .u64 (d : Int)) ∧ w' = w := by
 have hle : lo ≤ hi := by omega
 have H : Hid (hi = lo + (d : Int)) := hd
 clear hd
 go_enter Tryz.func166,Tryz.ntmps166
 go_wp2
 go_ret
 refine ⟨ret_int ?_,rfl⟩
 have := H.out
 simp only [wrapU]
 omega
def wid (lo hi : Int) : Nat := if hi < lo then 0 else Lib.bitLen (hi - lo).toNat
theorem width_any (lo hi : Int) (w : World) (h0 : -9223372036854775808 ≤ lo) (h1 : hi ≤ 9223372036854775807) (h2 : lo ≤ 9223372036854775807) (h3 : -9223372036854775808 ≤ hi) :
  Calls Tryz.prog 165 #[.int .i64 lo,.int .i64 hi] w fun e w' => e = .returned (.int .i64 (wid lo hi : Nat)) ∧ w' = w := by
 by_cases h : hi < lo
 ·have e0 : wid lo hi = 0 := by unfold wid; rw [if_pos h]
  rw [e0]
  go_enter Tryz.func165,Tryz.ntmps165
  go_wp2
  go_ret
  exact ⟨rfl,rfl⟩
 ·have e0 : wid lo hi = Lib.bitLen (hi - lo).toNat := by unfold wid; rw [if_neg h]
  obtain ⟨d,hd⟩ : ∃ d : Nat,d = (hi - lo).toNat := ⟨_,rfl⟩
  rw [e0,← hd]
  have H : Hid (hi = lo + (d : Int) ∧ d < 18446744073709551616) := ⟨by omega,by omega⟩
  clear e0 hd
  go_enter Tryz.func165,Tryz.ntmps165
  go_wp2_with fail
  refine (span_any lo hi d w h0 h1 H.out.1).mono ?_
  rintro e w' ⟨rfl,rfl⟩
  go_wp2_with fail
  refine (len64_any d _ H.out.2).mono ?_
  rintro e w' ⟨rfl,rfl⟩
  go_wp2
  go_ret
  exact ⟨rfl,rfl⟩
def grp (v : Nat) : Nat := max 1 ((Lib.bitLen v + 3) / 4)
theorem bitLen_64 (v : Nat) (h : v < 18446744073709551616) : Lib.bitLen v ≤ 64 := Lib.bitLen_le v 64 (by decide) h
theorem groups_any (v : Nat) (w : World) (hv : v < 18446744073709551616) :
  Calls Tryz.prog 179 #[.int .u64 v] w fun e w' => e = .returned (.int .i64 (grp v : Nat)) ∧ w' = w := by
 have hb := bitLen_64 v hv
 have HG : Hid (((grp v : Nat) : Int) = max 1 ((((Lib.bitLen v : Nat) : Int) + 4 - 1) / 4)) := by show _ = _; unfold grp; omega
 go_enter Tryz.func179,Tryz.ntmps179
 go_wp2_with fail
 refine (len64_any v w hv).mono ?_
 generalize Lib.bitLen v = l at *
 rintro e w' ⟨rfl,rfl⟩
 go_wp2
 go_ret
 exact ⟨ret_int HG.out.symm,rfl⟩
theorem xor_ones (a : Nat) (ha : a < 18446744073709551616) : a ^^^ 18446744073709551615 = 18446744073709551615 - a := by
 have h := BitVec.toNat_xor (BitVec.ofNat 64 a) (BitVec.allOnes 64)
 rw [BitVec.xor_allOnes,BitVec.toNat_not,BitVec.toNat_allOnes,BitVec.toNat_ofNat,Nat.mod_eq_of_lt ha] at h
 exact h.symm
theorem u64_xor_ones (a : Nat) (ha : a < 18446744073709551616) : bits .xor .u64 (a : Int) 18446744073709551615 = 18446744073709551615 - (a : Int) := by
 have h := u64_xor_nat a 18446744073709551615 ha (by decide)
 rw [xor_ones a ha] at h
 have e : ((18446744073709551615 : Nat) : Int) = 18446744073709551615 := rfl
 rw [e] at h
 rw [h]; omega
theorem u64_xor_zero (a : Nat) (ha : a < 18446744073709551616) : bits .xor .u64 (a : Int) 0 = (a : Int) := by
 have h := u64_xor_nat a 0 ha (by decide)
 simpa using h
def zig (n : Int) : Nat := if n < 0 then (-2 * n - 1).toNat else (2 * n).toNat
theorem zig_any (n : Int) (w : World) (h0 : -9223372036854775808 ≤ n) (h1 : n ≤ 9223372036854775807) :
  Calls Tryz.prog 262 #[.int .i64 n] w fun e w' => e = .returned (.int .u64 (zig n : Nat)) ∧ w' = w := by
 by_cases h : n < 0
 ·have e : zig n = (-2 * n - 1).toNat := by unfold zig; rw [if_pos h]
  rw [e]
  go_enter Tryz.func262,Tryz.ntmps262
  go_wp2
  go_ret
  refine ⟨ret_int ?_,rfl⟩
  have e1 : IntKind.u64.wrap (IntKind.u64.wrap n * 2) = (((18446744073709551616 + 2 * n).toNat : Nat) : Int) := by simp only [wrapU]; omega
  have e2 : IntKind.u64.wrap (n / 9223372036854775808) = 18446744073709551615 := by simp only [wrapU]; omega
  rw [e1,e2,u64_xor_ones _ (by omega)]
  omega
 ·have e : zig n = (2 * n).toNat := by unfold zig; rw [if_neg h]
  have h' : 0 ≤ n := by omega
  rw [e]
  clear e
  go_enter Tryz.func262,Tryz.ntmps262
  go_wp2
  go_ret
  refine ⟨ret_int ?_,rfl⟩
  have e1 : n * 2 = (((n * 2).toNat : Nat) : Int) := by omega
  have e2 : n / 9223372036854775808 = 0 := by omega
  rw [e2,e1,u64_xor_zero _ (by omega)]
  omega
theorem cnt_out (k : Nat) (h : 6 ≤ k) : cnt k = 0 := by unfold cnt; rw [List.getElem?_eq_none (by exact h)]; rfl
theorem cnt_le (k : Nat) : cnt k ≤ 3 := by
 by_cases h : 6 ≤ k
 ·rw [cnt_out k h]; decide
 ·have : k = 0 ∨ k = 1 ∨ k = 2 ∨ k = 3 ∨ k = 4 ∨ k = 5 := by omega
  rcases this with rfl | rfl | rfl | rfl | rfl | rfl <;> decide
theorem cnt_pos (k : Nat) (h : k < 6) : 1 ≤ cnt k := by
 have : k = 0 ∨ k = 1 ∨ k = 2 ∨ k = 3 ∨ k = 4 ∨ k = 5 := by omega
 rcases this with rfl | rfl | rfl | rfl | rfl | rfl <;> decide
theorem count_any (w : World) (ht : Tab w) (k : Nat) (hk : k < 256) :
  Calls Tryz.prog 203 #[.int .u8 (k : Int)] w fun e w' => e = .returned (.int .i64 ((cnt k : Nat) : Int)) ∧ w' = w := by
 by_cases h : k < 6
 ·have h1 := ht.cnt k h
  generalize cnt k = c at *
  clear ht
  go_enter Tryz.func203,Tryz.ntmps203
  go_wp2
  go_ret
  exact ⟨rfl,rfl⟩
 ·rw [cnt_out k (by omega)]
  clear ht
  go_enter Tryz.func203,Tryz.ntmps203
  go_wp2
  go_ret
  exact ⟨rfl,rfl⟩
theorem ktold_out (k : Nat) (h : 6 ≤ k) : ktold k = false := by unfold ktold; rw [List.getElem?_eq_none (by exact h)]; rfl
theorem told_any (w : World) (ht : Tab w) (k : Nat) (hk : k < 256) :
  Calls Tryz.prog 149 #[.int .u8 (k : Int)] w fun e w' => e = .returned (.bool (ktold k)) ∧ w' = w := by
 by_cases h : k < 6
 ·have h1 := ht.told k h
  generalize ktold k = c at *
  clear ht
  go_enter Tryz.func149,Tryz.ntmps149
  go_wp2
  go_ret
  exact ⟨rfl,rfl⟩
 ·rw [ktold_out k (by omega)]
  clear ht
  go_enter Tryz.func149,Tryz.ntmps149
  go_wp2
  go_ret
  exact ⟨rfl,rfl⟩
def has (k : Nat) (i : Int) : Bool := decide (0 ≤ i ∧ i < (cnt k : Int))
theorem hasField_any (w : World) (ht : Tab w) (k : Nat) (hk : k < 256) (i : Int) :
  Calls Tryz.prog 245 #[.int .u8 (k : Int),.int .i64 i] w fun e w' => e = .returned (.bool (has k i)) ∧ w' = w := by
 have H : Hid (Tab w) := ht
 clear ht
 by_cases h : 0 ≤ i
 ·go_enter Tryz.func245,Tryz.ntmps245
  go_wp2_with fail
  refine (count_any w H.out k hk).mono ?_
  rintro e w' ⟨rfl,rfl⟩
  go_wp2
  go_ret
  refine ⟨?_,rfl⟩
  simp [has,h]
 ·go_enter Tryz.func245,Tryz.ntmps245
  go_wp2
  go_ret
  refine ⟨?_,rfl⟩
  simp [has]; omega
theorem has_nat (k : Nat) (i : Int) (h : has k i = true) : ∃ j : Nat,i = (j : Int) ∧ j < cnt k ∧ k < 6 ∧ j < 3 := by
 simp only [has,decide_eq_true_eq] at h
 obtain ⟨h0,h1⟩ := h
 have h3 := cnt_le k
 have h6 : k < 6 := by
  rcases Nat.lt_or_ge k 6 with h | h
  ·exact h
  ·rw [cnt_out k h] at h1; omega
 obtain ⟨j,rfl⟩ := Int.eq_ofNat_of_zero_le h0
 exact ⟨j,rfl,by omega,h6,by omega⟩
theorem range_ok (w : World) (ht : Tab w) (k : Nat) (hk : k < 256) (j : Nat) (hj : j < cnt k) :
  Calls Tryz.prog 227 #[.int .u8 (k : Int),.int .i64 (j : Int)] w fun e w' => e = .returned (.tuple #[.int .i32 (lo k j),.int .i32 (hi k j),.int .i64 0]) ∧ Fr Nobody w w' := by
 have h : has k j = true := by simp only [has,decide_eq_true_eq]; omega
 obtain ⟨j',e,_,h6,h3⟩ := has_nat k j h
 obtain rfl : j = j' := by omega
 have H : Hid (Tab w) := ht
 have hx := ht.lo k j h6 h3
 have hy := ht.hi k j h6 h3
 clear ht e
 generalize lo k j = a at *
 generalize hi k j = b at *
 clear hj
 go_enter Tryz.func227,Tryz.ntmps227
 go_wp2_with fail
 refine (hasField_any w H.out k hk j).mono ?_
 rintro e w' ⟨rfl,rfl⟩
 rw [h]
 clear h
 go_wp2
 go_quiet (fail)
 go_wp2
 go_ret3
 exact ⟨rfl,(Fr.refl _ _).drewN _⟩
end Go.Proofs.YtgifeckbflkkpaaGreatDoor
