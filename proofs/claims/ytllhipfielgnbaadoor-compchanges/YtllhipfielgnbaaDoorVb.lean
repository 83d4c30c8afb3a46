/-
  Signs of the document; PutVar and PutInt where a list of bits lies beside the writer; what is read back: plain facts.
-/
import Derived.Test.YtllhipfielgnbaaDoorVa
namespace Go.Proofs.YtllhipfielgnbaaDoor
open Go.RowKit
set_option linter.unusedVariables false
set_option maxRecDepth 100000

set_option maxHeartbeats 400000 in
theorem rzig_any (n : Int) (w : World) (h0 : -9223372036854775808 ≤ n) (h1 : n ≤ 9223372036854775807) :
    Calls Tryd.prog 26 #[.int .i64 n] w fun e w' => e = .returned (.int .u64 (zig n : Nat)) ∧ w' = w := by
  by_cases h : n < 0
  · have e : zig n = (-2 * n - 1).toNat := by unfold zig; rw [if_pos h]
    rw [e]
    clear e
    go_enter Tryd.func26, Tryd.ntmps26
    go_wp2
    go_ret
    exact ⟨ret_int (by omega), rfl⟩
  · have e : zig n = (2 * n).toNat := by unfold zig; rw [if_neg h]
    have h' : 0 ≤ n := by omega
    rw [e]
    clear e
    go_enter Tryd.func26, Tryd.ntmps26
    go_wp2
    go_ret
    exact ⟨ret_int (by omega), rfl⟩
theorem pack_lt (L : List Bool) : ∀ x ∈ pack L, x < 256 := by
  intro x hx
  obtain ⟨i, _, rfl⟩ := List.mem_map.1 hx
  exact byteAt_lt L i
theorem num_zeros (n : Nat) : num (List.replicate n false) = 0 := by
  induction n with
  | zero => rfl
  | succ n ih => rw [List.replicate_succ, num, ih]; rfl
theorem end_back (L : List Bool) : endOf (pack L) L.length = 0 := by
  have h8 : 8 * (pack L).length - L.length < 8 := by rw [length_pack]; unfold nb; omega
  unfold endOf
  rw [if_neg (by omega)]
  have e : numAt (pack L) L.length (8 * (pack L).length - L.length) = 0 := by
    unfold numAt
    rw [bitsB_pack, List.drop_left, List.take_of_length_le (by rw [List.length_replicate, length_pack]; omega), num_zeros]
  rw [if_pos e]


theorem len_fr (w0 w : World) (b : Nat) (L : List Bool) (h : Ow w0 w b L) : Calls Tryd.prog 12 #[.pointer (some ⟨b, 0, none⟩)] w fun e w' => e = .returned (.int .i64 (L.length : Int)) ∧ Fr Nobody w w' := by
  obtain ⟨g, hW, hF⟩ := h
  refine (len_any _ w b g L hW).mono ?_
  rintro e w' ⟨rfl, rfl⟩
  exact ⟨rfl, Fr.refl _ _⟩
/-- a writer with the bits L, and a list of the bits M beside it -/
def Pair (w0 w : World) (b : Nat) (L : List Bool) (u : Value) (M : List Bool) : Prop := Ow w0 w b L ∧ Bo w0.heap.size w u M
theorem Pair.quiet {w0 w w' : World} {b : Nat} {L : List Bool} {u : Value} {M : List Bool} (h : Pair w0 w b L u M) (hf : Fr Nobody w w') : Pair w0 w' b L u M := ⟨h.1.quiet hf, h.2.quiet hf⟩
theorem put_pair (w0 w : World) (b : Nat) (L : List Bool) (u : Value) (M : List Bool) (v n : Nat) (x y : Int) (hx : x = (v : Int)) (hy : y = (n : Int)) (h : Pair w0 w b L u M) (hn : n ≤ 64) (hv : v < 2 ^ n) (hv2 : v < 18446744073709551616) (hl : L.length + n ≤ 1048576) :
    Calls Tryd.prog 24 #[.pointer (some ⟨b, 0, none⟩), .int .u64 x, .int .i64 y] w fun e w' => e = .returned (.int .i64 0) ∧ Pair w0 w' b (L ++ bitsN n v) u M := by
  subst hx; subst hy; exact put_keep w0 w b u L M v n h.1 h.2 hn hv hv2 hl

end Go.Proofs.YtllhipfielgnbaaDoor
