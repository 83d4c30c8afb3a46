/-
  The document's examples, for the laws of layer 2.
-/
import Derived.Test.YtkkehmapheopeaaDoorNc
namespace Go.Proofs.YtkkehmapheopeaaDoor
open Go.RowKit
set_option linter.unusedVariables false

theorem src_lit (w : World) (cs : Array Value) (n : Nat) (xs : List Value) (hx : cs.toList = xs) (hn : n ≤ 1000) (hs : cs.size = n) : Src (w.alloc (.cells cs 5)) (.slice (some ⟨w.heap.size, 0, none⟩) n n) n xs := by
  subst hx
  exact Src.of_row (e := 5) (World.ownsRow_lit w cs n (Nat.zero_le _) (by unfold maxLen; omega) (by omega))

theorem var16 : var 16 = [false, false, false, false, true, true, false, false, false, false] := by decide +kernel
theorem grp16 : grp 16 = 2 := by decide +kernel
theorem wid1000 : wid 0 1000 = 10 := by decide +kernel
theorem zigm1 : zig (-1) = 1 := by decide +kernel

end Go.Proofs.YtkkehmapheopeaaDoor

