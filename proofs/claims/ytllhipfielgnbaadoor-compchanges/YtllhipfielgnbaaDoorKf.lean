/-
  Components that are alike: '==' on them.
-/
import Derived.Test.YtllhipfielgnbaaDoorKe
import Derived.Laws.StructEq
import Derived.ChangeKeysEq
namespace Go.Proofs.YtllhipfielgnbaaDoor
open Go.RowKit
set_option linter.unusedVariables false
set_option maxRecDepth 100000

theorem eq_a3 (d : Nat) (a b c a' b' c' : Int) (w : World) : (Op.equalIn (d + 1 + 1) 22 (.agg #[.int .i32 a, .int .i32 b, .int .i32 c]) (.agg #[.int .i32 a', .int .i32 b', .int .i32 c'])).run Tryd.prog w = .ok ((a == a') && (b == b') && (c == c')) w := by
  have hi : ∃ i, Tryd.prog.info? 21 = some i := by
    have : (Tryd.prog.info? 21).isSome = true := by kernel_rfl
    exact Option.isSome_iff_exists.1 this
  obtain ⟨i, hi⟩ := hi
  have c1 : Tryd.prog.cellsOf 21 = 1 := by kernel_rfl
  have hz : (Tryd.prog.info? 21).map (·.size) = some 1 := by kernel_rfl
  have hu := Tryd.underlying21
  rw [run_equalIn_array w (d + 1) _ _ Tryd.underlying22 hi]
  simp only [Op.eqItems, show List.range 3 = [0, 1, 2] from rfl, c1]
  cases ha : (a == a') <;> cases hb : (b == b') <;> cases hc : (c == c') <;> go_simp
end Go.Proofs.YtllhipfielgnbaaDoor
