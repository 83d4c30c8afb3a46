/-
  A packet of which bits are turned that stand within 32 that follow one another is none: neither its head nor anything else is told: PacketBursts returns true, whatever its arguments of bulk at most 1048576, where the two tables (of the sum and of the components) lie as the program's text lays them, and changes nothing that was there.
-/
import Derived.Test.YtlncgkbgelejmaaGreatDoorLPacketBurstsbg
import Derived.Test.YtlncgkbgelejmaaGreatDoorTie
import Derived.Test.YtlncgkbgelejmaaGreatDoorCards
import Derived.OpenShut
import Derived.SevenTiedAt
import Derived.Deep.DeepHandedRow
namespace Go.Proofs.YtlncgkbgelejmaaGreatDoor
open Go.ChangeShapes Go.WideShapes Go.ChangeAt Go.RowKit
set_option linter.unusedVariables false
set_option maxRecDepth 100000
theorem packetBursts_holds : Rows.PacketBurstsUptoCardSaid :=
  Claim7.holds_tied_plain_at .later [] [.data, .data] true (true, "9aae8454029b5fd2df05ec3bc9481fee79cd8496e147d55a438043f04e3e370d") true
    packetBursts_row (fun _ h => by cases h) (by kernel_rfl) (fun _ h => by cases h) packetBurstsUpto_row_tie rfl ⟨rfl, rfl⟩ (by kernel_rfl) rfl
    (fun f fn hf hfn => by
      obtain rfl : f = 3 := Option.some.inj ((show Tryz.prog.funcNamed "pinnace/pinnacelaw20.PacketBursts" = some 3 by kernel_rfl).symm.trans hf) |>.symm
      obtain rfl : fn = Tryz.f3 := (Option.some.inj (Tryz.func3.symm.trans hfn)).symm
      exact ⟨by kernel_rfl, fun j t ht => by
        rw [Tryz.params3] at ht
        have hm : t ∈ [24, 25, 25, 26, 22] := by simpa using Array.mem_of_getElem? ht
        have hall : ([24, 25, 25, 26, 22].all fun u => !Tryz.prog.wantsStandIn u) = true := by kernel_rfl
        exact (show Tryz.prog.wantsStandIn t = false by simpa using List.all_eq_true.1 hall t hm)⟩)
    (by kernel_rfl)
end Go.Proofs.YtlncgkbgelejmaaGreatDoor
