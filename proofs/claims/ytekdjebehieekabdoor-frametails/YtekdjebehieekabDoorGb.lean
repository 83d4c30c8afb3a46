/-
  awake of the laws on frames, and the document's Turn.
-/
import Derived.Test.YtekdjebehieekabDoorGa
import Derived.Test.YtekdjebehieekabDoorCb
import Derived.Lib.SlBytesConst
namespace Go.Proofs.YtekdjebehieekabDoor
open Go.RowKit
set_option linter.unusedVariables false

theorem crc_nine : crc [49, 50, 51, 52, 53, 54, 55, 56, 57] = 3421780262 := by decide +kernel

set_option maxHeartbeats 1000000 in
theorem awake_any (w : World) (ht : Tab w) : Calls Tryd.prog 4 #[] w fun e w' => e = .returned (.bool true) ∧ Fr Nobody w w' := by
  have HT : Hid (Tab w) := ht
  clear ht
  have HC : Hid (crc [49, 50, 51, 52, 53, 54, 55, 56, 57] = 3421780262) := crc_nine
  have kc := fun (w : World) (C : Array Value) (n c : Nat) => Lib.run_convert_bytes_const (P := Tryd.prog) w 22 5 C n c Tryd.underlying22 Tryd.underlying5
  go_enter Tryd.func4, Tryd.ntmps4
  go_wp2_with fail
  have hfr : Fr Nobody w _ := (Fr.refl _ w).alloc (.cells #[.int .u8 49, .int .u8 50, .int .u8 51, .int .u8 52, .int .u8 53, .int .u8 54, .int .u8 55, .int .u8 56, .int .u8 57] 5 (9, 10))
  refine (sum_any _ _ 9 9 [49, 50, 51, 52, 53, 54, 55, 56, 57] ?_ rfl (by decide) (by decide) (HT.out.quiet hfr)).mono ?_
  · refine .inr ⟨_, _, rfl, fun j x hx => ?_⟩
    rw [cell_of_row _ _ _ _ _ _ (heap_alloc_new w _), Nat.zero_add]
    have e : (#[Value.int .u8 49, .int .u8 50, .int .u8 51, .int .u8 52, .int .u8 53, .int .u8 54, .int .u8 55, .int .u8 56, .int .u8 57] : Array Value) = (vrow [49, 50, 51, 52, 53, 54, 55, 56, 57]).toArray := rfl
    rw [e, List.getElem?_toArray, getElem?_vrow, hx]; rfl
  rintro e w' ⟨rfl, rfl⟩
  rw [HC.out]
  go_wp2
  go_ret
  exact ⟨rfl, hfr⟩

end Go.Proofs.YtekdjebehieekabDoor
