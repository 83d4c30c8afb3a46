/-
  Signs of the document; PutVar and PutInt where a list of bits lies beside the writer; what is read back: plain facts.
-/
import Derived.Test.YtlncgkbgelejmaaGreatDoorVag
namespace Go.Proofs.YtlncgkbgelejmaaGreatDoor
open Go.RowKit
set_option linter.unusedVariables false
set_option maxRecDepth 100000

set_option maxHeartbeats 400000 in
theorem rzig_any (n : Int) (w : World) (h0 : -9223372036854775808 ≤ n) (h1 : n ≤ 9223372036854775807) :
    Calls Tryz.prog 52 #[.int .i64 n] w fun e w' => e = .returned (.int .u64 (zig n : Nat)) ∧ w' = w := by
  by_cases h : n < 0
  · have e : zig n = (-2 * n - 1).toNat := by unfold zig; rw [if_pos h]
    rw [e]
    clear e
    go_enter Tryz.func52, Tryz.ntmps52
    go_wp2
    go_ret
    exact ⟨ret_int (by omega), rfl⟩
  · have e : zig n = (2 * n).toNat := by unfold zig; rw [if_neg h]
    have h' : 0 ≤ n := by omega
    rw [e]
    clear e
    go_enter Tryz.func52, Tryz.ntmps52
    go_wp2
    go_ret
    exact ⟨ret_int (by omega), rfl⟩
theorem pack_lt (L : List Bool) : ∀ x ∈ pack L, x < 256 := by
  intro x hx
  obtain ⟨i, _, rfl⟩ := List.mem_map.1 hx
  exact byteAt_lt L i
theorem num_zeros (n : Nat) : num (List.replicate n false) = 0 := by
  induction n with
  | zero => rfl
  | succ n ih => rw [List.replicate_succ, num, ih]; rfl
theorem end_back (L : List Bool) : endOf (pack L) L.length = 0 := by
  have h8 : 8 * (pack L).length - L.length < 8 := by rw [length_pack]; unfold nb; omega
  unfold endOf
  rw [if_neg (by omega)]
  have e : numAt (pack L) L.length (8 * (pack L).length - L.length) = 0 := by
    unfold numAt
    rw [bitsB_pack, List.drop_left, List.take_of_length_le (by rw [List.length_replicate, length_pack]; omega), num_zeros]
  rw [if_pos e]


theorem len_fr (w0 w : World) (b : Nat) (L : List Bool) (h : Ow w0 w b L) : Calls Tryz.prog 118 #[.pointer (some ⟨b, 0, none⟩)] w fun e w' => e = .returned (.int .i64 (L.length : Int)) ∧ Fr Nobody w w' := by
  obtain ⟨g, hW, hF⟩ := h
  refine (len_any _ w b g L hW).mono ?_
  rintro e w' ⟨rfl, rfl⟩
  exact ⟨rfl, Fr.refl _ _⟩
/-- a writer with the bits L, and a list of the bits M beside it -/
def Pair (w0 w : World) (b : Nat) (L : List Bool) (u : Value) (M : List Bool) : Prop := Ow w0 w b L ∧ Bo w0.heap.size w u M
theorem Pair.quiet {w0 w w' : World} {b : Nat} {L : List Bool} {u : Value} {M : List Bool} (h : Pair w0 w b L u M) (hf : Fr Nobody w w') : Pair w0 w' b L u M := ⟨h.1.quiet hf, h.2.quiet hf⟩
theorem put_pair (w0 w : World) (b : Nat) (L : List Bool) (u : Value) (M : List Bool) (v n : Nat) (x y : Int) (hx : x = (v : Int)) (hy : y = (n : Int)) (h : Pair w0 w b L u M) (hn : n ≤ 64) (hv : v < 2 ^ n) (hv2 : v < 18446744073709551616) (hl : L.length + n ≤ 1048576) :
    Calls Tryz.prog 92 #[.pointer (some ⟨b, 0, none⟩), .int .u64 x, .int .i64 y] w fun e w' => e = .returned (.int .i64 0) ∧ Pair w0 w' b (L ++ bitsN n v) u M := by
  subst hx; subst hy; exact put_keep w0 w b u L M v n h.1 h.2 hn hv hv2 hl

set_option maxHeartbeats 1000000 in
theorem putVar_pair (w0 w : World) (b : Nat) (L : List Bool) (u : Value) (M : List Bool) (v : Nat) (h : Pair w0 w b L u M) (hv : v < 18446744073709551616) (hl : L.length + 5 * grp v ≤ 1048576) :
    Calls Tryz.prog 91 #[.pointer (some ⟨b, 0, none⟩), .int .u64 v] w fun e w' => e = .returned (.int .i64 0) ∧ Pair w0 w' b (L ++ var v) u M := by
  have hg := grp_bd v hv
  have H : Hid (Pair w0 w b L u M) := h
  have HV : Hid (var v = varTo v (grp v) (grp v)) := rfl
  clear h
  have hgr := groups_any v w hv
  generalize var v = vv at *
  generalize grp v = n at *
  go_enter Tryz.func91, Tryz.ntmps91
  go_wp2_with fail
  refine hgr.mono ?_
  clear hgr
  rintro e w' ⟨rfl, rfl⟩
  go_wp2_with fail
  refine (len_fr w0 _ b L H.out.1).mono ?_
  rintro e w1 ⟨rfl, hW⟩
  have H1 : Hid (Pair w0 w1 b L u M) := H.out.quiet hW
  clear hW H
  have hlong : ¬ (1048576 : Int) - (L.length : Int) < (n : Int) * 5 := by omega
  go_wp2
  clear hlong
  go_loopw [22] (fun c wr => ∃ k : Nat, k ≤ n ∧ c = .int .i64 k ∧ Pair w0 wr b (L ++ varTo v n k) u M) (fun c _ => n - (intOf c).toNat)
  case atStart => exact ⟨0, Nat.zero_le _, rfl, by simpa [varTo] using H1.out⟩
  case round =>
    obtain ⟨k, hk, rfl, hW⟩ := hrel
    by_cases hlt : k < n
    · by_cases hlast : k + 1 < n
      · have hla : (k : Int) < (n : Int) - 1 := by omega
        go_wp2_with fail
        refine (put_pair w0 wr b _ u M (grpAt v n k) 5 _ 5 (by rw [grpAt, if_pos hlast]; exact more_val v k) rfl hW (by decide) (grpAt_lt v n k) (Nat.lt_trans (grpAt_lt v n k) (by decide)) (by rw [List.length_append, length_varTo]; omega)).mono ?_
        rintro e w2 ⟨rfl, hW2⟩
        have H2 : Hid (Pair w0 w2 b (L ++ varTo v n (k + 1)) u M) := by rw [varTo, ← List.append_assoc]; exact hW2
        clear hW hW2 H1
        go_wp2
        go_roundw
        case rel => exact ⟨k + 1, by omega, by go_num, H2.out⟩
        case measure => simp [intOf]; omega
      · have hla : ¬ (k : Int) < (n : Int) - 1 := by omega
        go_wp2_with fail
        refine (put_pair w0 wr b _ u M (grpAt v n k) 5 _ 5 (by rw [grpAt, if_neg hlast]; exact part_val v k) rfl hW (by decide) (grpAt_lt v n k) (Nat.lt_trans (grpAt_lt v n k) (by decide)) (by rw [List.length_append, length_varTo]; omega)).mono ?_
        rintro e w2 ⟨rfl, hW2⟩
        have H2 : Hid (Pair w0 w2 b (L ++ varTo v n (k + 1)) u M) := by rw [varTo, ← List.append_assoc]; exact hW2
        clear hW hW2 H1
        go_wp2
        go_roundw
        case rel => exact ⟨k + 1, by omega, by go_num, H2.out⟩
        case measure => simp [intOf]; omega
    · go_wp2
      go_ret
      have e : k = n := by omega
      subst e
      exact ⟨rfl, by rw [HV.out]; exact hW⟩

end Go.Proofs.YtlncgkbgelejmaaGreatDoor

