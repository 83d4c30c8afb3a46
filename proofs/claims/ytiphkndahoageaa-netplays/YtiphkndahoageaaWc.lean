/-
  What add does to a writer.
-/
import Derived.Test.YtiphkndahoageaaWb
namespace Go.Proofs.Ytiphkndahoageaa
open Go.RowKit
set_option linter.unusedVariables false

theorem or_val (x r : Nat) (bit : Bool) (hx : x < 2 ^ r) (hr : r < 8) : bits .or .u8 (x : Int) ((bit.toNat : Int) * 2 ^ r % 256) = ((x + bit.toNat * 2 ^ r : Nat) : Int) := by
  have h256 : 2 ^ r ≤ 128 := by
    have := Nat.pow_le_pow_right (n := 2) (by decide) (show r ≤ 7 by omega)
    simpa using this
  have hm : ((bit.toNat : Int) * 2 ^ r % 256) = ((bit.toNat * 2 ^ r : Nat) : Int) := by
    have hp : ((2 : Int) ^ r) = ((2 ^ r : Nat) : Int) := by simp
    rw [hp]
    cases bit
    · simp
    · simp only [Bool.toNat_true, Nat.one_mul]
      omega
  rw [hm, u8_or_nat x (bit.toNat * 2 ^ r) (by omega) (by cases bit <;> simp; omega)]
  rw [← or_bit x r bit hx, Nat.shiftLeft_eq]

theorem setCell_heap (w : World) (b o : Nat) (cur : Array Value) (t : TypeId) (u : Value) (h : w.heap[b]? = some (.cells cur t (0, 0))) : (w.setCell ⟨b, o, none⟩ u).heap[b]? = some (.cells (cur.setIfInBounds o u) t (0, 0)) :=
  heap_setCell_same w b o cur t u h

end Go.Proofs.Ytiphkndahoageaa

