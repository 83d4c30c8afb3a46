/-
  The grid: At; a nil grid; the document's examples.
-/
import Derived.Test.YthokgjkgfolojabDoorCek
import Derived.Test.YthokgjkgfolojabDoorUs
namespace Go.Proofs.YthokgjkgfolojabDoor
open Go.RowKit Go.Maps
set_option linter.unusedVariables false
set_option maxRecDepth 100000

set_option maxHeartbeats 1000000 in
theorem gput_nil (w : World) (id : Nat) (x y : Int) : Calls Tryd.prog 8 #[.pointer none, .int .u32 (id : Int), .int .i32 x, .int .i32 y] w fun e w' => e = .returned (.int .i64 10) ∧ w' = w := by
  go_enter Tryd.func8, Tryd.ntmps8
  go_wp2
  go_ret
  exact ⟨rfl, rfl⟩
set_option maxHeartbeats 1000000 in
theorem gdrop_nil (w : World) (id : Nat) : Calls Tryd.prog 18 #[.pointer none, .int .u32 (id : Int)] w fun e w' => e = .returned (.int .i64 10) ∧ w' = w := by
  go_enter Tryd.func18, Tryd.ntmps18
  go_wp2
  go_ret
  exact ⟨rfl, rfl⟩
set_option maxHeartbeats 1000000 in
theorem gbox_nil (w : World) (a b c d : Int) : Calls Tryd.prog 22 #[.pointer none, .int .i64 a, .int .i64 b, .int .i64 c, .int .i64 d] w fun e w' => e = .returned (.slice none 0 0) ∧ w' = w := by
  go_enter Tryd.func22, Tryd.ntmps22
  go_wp2
  go_ret
  exact ⟨rfl, rfl⟩
theorem GOk.nil : GOk [] := ⟨List.Pairwise.nil, fun s hs => by cases hs⟩
theorem GIn.nil : GIn [] := fun s hs => by cases hs
theorem GIn.put {L : List Spt} (h : GIn L) (id : Nat) (x y : Int) (hw : inW x y = true) : GIn (putL L (id, x, y)) := by
  intro s hs
  rcases mem_put.1 hs with rfl | ⟨hs, _⟩
  · exact hw
  · exact h s hs
theorem GIn.drop {L : List Spt} (h : GIn L) (id : Nat) : GIn (dropL L id) := fun s hs => h s (mem_drop.1 hs).1
end Go.Proofs.YthokgjkgfolojabDoor
