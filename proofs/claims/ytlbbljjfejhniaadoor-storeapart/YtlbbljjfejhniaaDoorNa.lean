/-
  math/bits.Len64, and span, Width, groups, Zig and Zag of package nums.
-/
import Derived.Test.YtlbbljjfejhniaaDoorWg
import Derived.Lib.BitFns
import Derived.Lib.Walk
import Derived.Lib.Small
namespace Go.Proofs.YtlbbljjfejhniaaDoor
open Go.RowKit
set_option linter.unusedVariables false

theorem len_byte (x s : Nat) (hx : x < 18446744073709551616) (hs : s = 0 ∨ 2 ^ s ≤ x) (hb : x / 2 ^ s ≤ 255) (b : Int) (e : b = ((x / 2 ^ s : Nat) : Int)) : ∃ l : Nat, l ≤ 8 ∧ Lib.len8 b = (l : Int) ∧ s + l = Lib.bitLen x := by
  have h : b.toNat = x / 2 ^ s := by rw [e, Int.toNat_natCast]
  have hb0 : 0 ≤ b := by rw [e]; exact Int.natCast_nonneg _
  have hb1 : b ≤ 255 := by rw [e]; exact Int.ofNat_le.2 hb
  refine ⟨Lib.bitLen b.toNat, Lib.bitLen_le8' b hb0 hb1, Lib.len8_of b hb0 hb1, ?_⟩
  rw [h]
  rcases hs with rfl | hs
  · simp
  · exact (Lib.bitLen_shift s x hs hx).symm

end Go.Proofs.YtlbbljjfejhniaaDoor
