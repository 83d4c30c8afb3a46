/-
  PutVar, PutInt and PutIn of package nums.
-/
import Derived.Test.YtcmofbhfdagpcaaGreatDoorNb
namespace Go.Proofs.YtcmofbhfdagpcaaGreatDoor
open Go.RowKit
set_option linter.unusedVariables false

/-- the i-th group of a number of n groups -/
def grpAt (v n i : Nat) : Nat := v / 2 ^ (4 * i) % 16 + (if i + 1 < n then 16 else 0)
/-- the first k groups -/
def varTo (v n : Nat) : Nat → List Bool
  | 0 => []
  | k + 1 => varTo v n k ++ bitsN 5 (grpAt v n k)
/-- Var of v -/
def var (v : Nat) : List Bool := varTo v (grp v) (grp v)
theorem length_varTo (v n k : Nat) : (varTo v n k).length = 5 * k := by
  induction k with
  | zero => rfl
  | succ k ih => rw [varTo, List.length_append, ih, length_bitsN]; omega
theorem length_var (v : Nat) : (var v).length = 5 * grp v := length_varTo _ _ _
theorem grp_bd (v : Nat) (hv : v < 18446744073709551616) : 1 ≤ grp v ∧ grp v ≤ 16 := by
  have := bitLen_64 v hv
  unfold grp; omega
theorem grpAt_lt (v n i : Nat) : grpAt v n i < 32 := by unfold grpAt; split <;> omega

theorem part_val (v k : Nat) : ((v : Int) / 2 ^ (4 * k)).tmod 16 = ((v / 2 ^ (4 * k) % 16 : Nat) : Int) := by
  have h2 : ((v : Int) / 2 ^ (4 * k)) = ((v / 2 ^ (4 * k) : Nat) : Int) := by simp
  rw [h2, Int.tmod_eq_emod_of_nonneg (Int.natCast_nonneg _)]
  omega
theorem more_val (v k : Nat) : IntKind.u64.wrap (((v : Int) / 2 ^ (4 * k)).tmod 16 + 16) = ((v / 2 ^ (4 * k) % 16 + 16 : Nat) : Int) := by
  rw [part_val, wrapU]
  have := Nat.mod_lt (v / 2 ^ (4 * k)) (show 0 < 16 by decide)
  omega
theorem put_ow' (w0 w : World) (b : Nat) (L : List Bool) (v n : Nat) (x y : Int) (hx : x = (v : Int)) (hy : y = (n : Int)) (h : Ow w0 w b L) (hn : n ≤ 64) (hv : v < 2 ^ n) (hv2 : v < 18446744073709551616) (hl : L.length + n ≤ 1048576) :
    Calls Tryz.prog 46 #[.pointer (some ⟨b, 0, none⟩), .int .u64 x, .int .i64 y] w fun e w' => e = .returned (.int .i64 0) ∧ Ow w0 w' b (L ++ bitsN n v) := by
  subst hx; subst hy; exact put_ow w0 w b L v n h hn hv hv2 hl

set_option maxHeartbeats 400000 in
theorem putVar_nil (v : Nat) (w : World) (hv : v < 18446744073709551616) :
    Calls Tryz.prog 45 #[.pointer none, .int .u64 v] w fun e w' => e = .returned (.int .i64 10) ∧ w' = w := by
  go_enter Tryz.func45, Tryz.ntmps45
  go_wp2_with fail
  refine (groups_any v w hv).mono ?_
  rintro e w' ⟨rfl, rfl⟩
  go_wp2
  go_ret
  exact ⟨rfl, rfl⟩

set_option maxHeartbeats 1000000 in
theorem putVar_ok (w0 w : World) (b : Nat) (L : List Bool) (v : Nat) (h : Ow w0 w b L) (hv : v < 18446744073709551616) (hl : L.length + 5 * grp v ≤ 1048576) :
    Calls Tryz.prog 45 #[.pointer (some ⟨b, 0, none⟩), .int .u64 v] w fun e w' => e = .returned (.int .i64 0) ∧ Ow w0 w' b (L ++ var v) := by
  have hg := grp_bd v hv
  have H : Hid (Ow w0 w b L) := h
  have HV : Hid (var v = varTo v (grp v) (grp v)) := rfl
  clear h
  have hgr := groups_any v w hv
  generalize var v = vv at *
  generalize grp v = n at *
  go_enter Tryz.func45, Tryz.ntmps45
  go_wp2_with fail
  refine hgr.mono ?_
  clear hgr
  rintro e w' ⟨rfl, rfl⟩
  go_wp2_with fail
  refine (len_ow w0 _ b L H.out).mono ?_
  rintro e w1 ⟨rfl, hW⟩
  have H1 : Hid (Ow w0 w1 b L) := hW
  clear hW H
  have hlong : ¬ (1048576 : Int) - (L.length : Int) < (n : Int) * 5 := by omega
  go_wp2
  clear hlong
  go_loopw [22] (fun c wr => ∃ k : Nat, k ≤ n ∧ c = .int .i64 k ∧ Ow w0 wr b (L ++ varTo v n k)) (fun c _ => n - (intOf c).toNat)
  case atStart => exact ⟨0, Nat.zero_le _, rfl, by simpa [varTo] using H1.out⟩
  case round =>
    obtain ⟨k, hk, rfl, hW⟩ := hrel
    by_cases hlt : k < n
    · by_cases hlast : k + 1 < n
      · have hla : (k : Int) < (n : Int) - 1 := by omega
        go_wp2_with fail
        refine (put_ow' w0 wr b _ (grpAt v n k) 5 _ 5 (by rw [grpAt, if_pos hlast]; exact more_val v k) rfl hW (by decide) (grpAt_lt v n k) (Nat.lt_trans (grpAt_lt v n k) (by decide)) (by rw [List.length_append, length_varTo]; omega)).mono ?_
        rintro e w2 ⟨rfl, hW2⟩
        have H2 : Hid (Ow w0 w2 b (L ++ varTo v n (k + 1))) := by rw [varTo, ← List.append_assoc]; exact hW2
        clear hW hW2 H1
        go_wp2
        go_roundw
        case rel => exact ⟨k + 1, by omega, by go_num, H2.out⟩
        case measure => simp [intOf]; omega
      · have hla : ¬ (k : Int) < (n : Int) - 1 := by omega
        go_wp2_with fail
        refine (put_ow' w0 wr b _ (grpAt v n k) 5 _ 5 (by rw [grpAt, if_neg hlast]; exact part_val v k) rfl hW (by decide) (grpAt_lt v n k) (Nat.lt_trans (grpAt_lt v n k) (by decide)) (by rw [List.length_append, length_varTo]; omega)).mono ?_
        rintro e w2 ⟨rfl, hW2⟩
        have H2 : Hid (Ow w0 w2 b (L ++ varTo v n (k + 1))) := by rw [varTo, ← List.append_assoc]; exact hW2
        clear hW hW2 H1
        go_wp2
        go_roundw
        case rel => exact ⟨k + 1, by omega, by go_num, H2.out⟩
        case measure => simp [intOf]; omega
    · go_wp2
      go_ret
      have e : k = n := by omega
      subst e
      exact ⟨rfl, by rw [HV.out]; exact hW⟩

end Go.Proofs.YtcmofbhfdagpcaaGreatDoor


/-
  The document's examples, for the laws of layer 2.
-/
namespace Go.Proofs.YtcmofbhfdagpcaaGreatDoor
open Go.RowKit
set_option linter.unusedVariables false

theorem src_lit (w : World) (cs : Array Value) (n : Nat) (xs : List Value) (hx : cs.toList = xs) (hn : n ≤ 1000) (hs : cs.size = n) : Src (w.alloc (.cells cs 5)) (.slice (some ⟨w.heap.size, 0, none⟩) n n) n xs := by
  subst hx
  exact Src.of_row (e := 5) (World.ownsRow_lit w cs n (Nat.zero_le _) (by unfold maxLen; omega) (by omega))

theorem var16 : var 16 = [false, false, false, false, true, true, false, false, false, false] := by decide +kernel
theorem grp16 : grp 16 = 2 := by decide +kernel
theorem wid1000 : wid 0 1000 = 10 := by decide +kernel
theorem zigm1 : zig (-1) = 1 := by decide +kernel

end Go.Proofs.YtcmofbhfdagpcaaGreatDoor


/-
  PutIn, and reading of a nil reader, of package nums.
-/
namespace Go.Proofs.YtcmofbhfdagpcaaGreatDoor
open Go.RowKit
set_option linter.unusedVariables false

set_option maxHeartbeats 400000 in
theorem tryU_nil (w : World) (f : Value) : Calls Tryz.prog 129 #[.pointer none, f] w fun e w' => e = .returned (.tuple #[.int .u64 0, .int .i64 10]) ∧ w' = w := by
  go_enter Tryz.func129, Tryz.ntmps129
  go_wp2
  go_ret2
  exact ⟨rfl, rfl⟩

set_option maxHeartbeats 400000 in
theorem getVar_nil (w : World) : Calls Tryz.prog 112 #[.pointer none] w fun e w' => e = .returned (.tuple #[.int .u64 0, .int .i64 10]) ∧ Fr Nobody w w' := by
  go_enter Tryz.func112, Tryz.ntmps112
  go_wp2_with fail
  refine (tryU_nil _ _).mono ?_
  rintro e w1 ⟨rfl, rfl⟩
  go_wp2
  go_ret2
  exact ⟨rfl, (Fr.refl _ _).alloc _⟩

theorem zag0 : zag 0 = 0 := by decide +kernel
end Go.Proofs.YtcmofbhfdagpcaaGreatDoor


/-
  PutIn of package nums, and GetIn of a nil reader.
-/
namespace Go.Proofs.YtcmofbhfdagpcaaGreatDoor
open Go.RowKit
set_option linter.unusedVariables false

set_option maxHeartbeats 400000 in
theorem tryI_nil (w : World) (f : Value) : Calls Tryz.prog 110 #[.pointer none, f] w fun e w' => e = .returned (.tuple #[.int .i64 0, .int .i64 10]) ∧ w' = w := by
  go_enter Tryz.func110, Tryz.ntmps110
  go_wp2
  go_ret2
  exact ⟨rfl, rfl⟩

set_option maxHeartbeats 400000 in
theorem getIn_nil (w : World) (lo hi : Int) : Calls Tryz.prog 86 #[.pointer none, .int .i64 lo, .int .i64 hi] w fun e w' => e = .returned (.tuple #[.int .i64 0, .int .i64 10]) ∧ Fr Nobody w w' := by
  go_enter Tryz.func86, Tryz.ntmps86
  go_wp2_with fail
  refine (tryI_nil _ _).mono ?_
  rintro e w1 ⟨rfl, rfl⟩
  go_wp2
  go_ret2
  exact ⟨rfl, (((Fr.refl _ _).alloc _).alloc _).alloc _⟩

set_option maxHeartbeats 400000 in
theorem putIn_nil (w : World) (n lo hi : Int) : Calls Tryz.prog 44 #[.pointer none, .int .i64 n, .int .i64 lo, .int .i64 hi] w fun e w' => e = .returned (.int .i64 10) ∧ w' = w := by
  go_enter Tryz.func44, Tryz.ntmps44
  go_wp2
  go_ret
  exact ⟨rfl, rfl⟩
set_option maxHeartbeats 400000 in
theorem putIn_arg (w : World) (b : Nat) (n lo hi : Int) (h : hi < lo) : Calls Tryz.prog 44 #[.pointer (some ⟨b, 0, none⟩), .int .i64 n, .int .i64 lo, .int .i64 hi] w fun e w' => e = .returned (.int .i64 1) ∧ w' = w := by
  go_enter Tryz.func44, Tryz.ntmps44
  go_wp2
  go_ret
  exact ⟨rfl, rfl⟩
set_option maxHeartbeats 400000 in
theorem putIn_range (w : World) (b : Nat) (n lo hi : Int) (h : lo ≤ hi) (hn : n < lo ∨ hi < n) : Calls Tryz.prog 44 #[.pointer (some ⟨b, 0, none⟩), .int .i64 n, .int .i64 lo, .int .i64 hi] w fun e w' => e = .returned (.int .i64 5) ∧ w' = w := by
  rcases hn with hn | hn
  · go_enter Tryz.func44, Tryz.ntmps44
    go_wp2
    go_ret
    exact ⟨rfl, rfl⟩
  · have hn' : ¬ n < lo := by omega
    go_enter Tryz.func44, Tryz.ntmps44
    go_wp2
    go_ret
    exact ⟨rfl, rfl⟩
theorem lt_bitLen (x : Nat) (h : x < 18446744073709551616) : x < 2 ^ Lib.bitLen x := by
  induction x using Nat.strongRecOn with
  | ind x ih =>
    by_cases h0 : x = 0
    · subst h0; exact Nat.two_pow_pos _
    · rw [Lib.bitLen_half x h0 h, Nat.add_comm, Nat.pow_succ]
      have := ih (x / 2) (by omega) (by omega)
      omega
theorem wid_le (lo hi : Int) (h0 : -9223372036854775808 ≤ lo) (h1 : hi ≤ 9223372036854775807) : wid lo hi ≤ 64 := by
  unfold wid
  split
  · omega
  · exact bitLen_64 _ (by omega)
theorem in_lt (n lo hi : Int) (h0 : -9223372036854775808 ≤ lo) (h1 : hi ≤ 9223372036854775807) (ha : lo ≤ n) (hb : n ≤ hi) : (n - lo).toNat < 2 ^ wid lo hi := by
  unfold wid
  rw [if_neg (by omega)]
  have := lt_bitLen (hi - lo).toNat (by omega)
  omega
set_option maxHeartbeats 400000 in
theorem putIn_ok (w0 w : World) (b : Nat) (L : List Bool) (n lo hi : Int) (d : Nat) (hd : n = lo + (d : Int)) (h : Ow w0 w b L) (h0 : -9223372036854775808 ≤ lo) (h1 : hi ≤ 9223372036854775807) (ha : lo ≤ n) (hb : n ≤ hi) (hl : L.length + 64 ≤ 1048576) :
    Calls Tryz.prog 44 #[.pointer (some ⟨b, 0, none⟩), .int .i64 n, .int .i64 lo, .int .i64 hi] w fun e w' => e = .returned (.int .i64 0) ∧ Ow w0 w' b (L ++ bitsN (wid lo hi) d) := by
  have hle : lo ≤ hi := by omega
  have H : Hid (Ow w0 w b L) := h
  have ed : (n - lo).toNat = d := by omega
  have HI : Hid (d < 2 ^ wid lo hi) := ed ▸ in_lt n lo hi h0 h1 ha hb
  have HW : Hid (wid lo hi ≤ 64) := wid_le lo hi h0 h1
  have G1 : Hid _ := fun w => span_any lo n d w h0 (by omega) hd
  have G2 : Hid _ := fun w => width_any lo hi w h0 h1 (by omega) (by omega)
  have hdl : d < 18446744073709551616 := by omega
  clear h hd ed
  generalize wid lo hi = m at *
  go_enter Tryz.func44, Tryz.ntmps44
  go_wp2_with fail
  refine (G1.out _).mono ?_
  rintro e w' ⟨rfl, rfl⟩
  go_wp2_with fail
  refine (G2.out _).mono ?_
  rintro e w' ⟨rfl, rfl⟩
  go_wp2_with fail
  refine (put_ow w0 _ b L d m H.out HW.out HI.out hdl (by have := HW.out; omega)).mono ?_
  rintro e w1 ⟨rfl, hW⟩
  go_wp2
  go_ret
  exact ⟨rfl, hW⟩

end Go.Proofs.YtcmofbhfdagpcaaGreatDoor

