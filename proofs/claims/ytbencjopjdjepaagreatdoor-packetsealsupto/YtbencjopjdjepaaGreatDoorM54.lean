/-
  Every packet has its frame, or is refused; its head is told, and all of it is read again behind the same snapshot: PacketSeals returns true, whatever its arguments of bulk at most 1048576, where the two tables (of the sum and of the components) lie as the program's text lays them, and changes nothing that was there.
-/
import Derived.Test.YtbencjopjdjepaaGreatDoorM53
import Derived.Test.YtbencjopjdjepaaGreatDoorTie
import Derived.Test.YtbencjopjdjepaaGreatDoorCards
import Derived.OpenShut
import Derived.SevenTiedAt
import Derived.Deep.DeepHandedRow
namespace Go.Proofs.YtbencjopjdjepaaGreatDoor
open Go.ChangeShapes Go.WideShapes Go.ChangeAt Go.RowKit
set_option linter.unusedVariables false
set_option maxRecDepth 100000
theorem packetSeals_holds : Rows.PacketSealsUptoCardSaid :=
  Claim7.holds_tied_plain_at .later [] [.data, .data] true (true, "873b7fa4000b37722133ca865c318f2e9887d6fe404735748e4804364c540280") true
    packetSeals_row (fun _ h => by cases h) (by kernel_rfl) (fun _ h => by cases h) packetSealsUpto_row_tie rfl ⟨rfl, rfl⟩ (by kernel_rfl) rfl
    (fun f fn hf hfn => by
      obtain rfl : f = 3 := Option.some.inj ((show Tryz.prog.funcNamed "pinnace/pinnacelaw20.PacketSeals" = some 3 by kernel_rfl).symm.trans hf) |>.symm
      obtain rfl : fn = Tryz.f3 := (Option.some.inj (Tryz.func3.symm.trans hfn)).symm
      exact ⟨by kernel_rfl, fun j t ht => by
        rw [Tryz.params3] at ht
        have hm : t ∈ [24, 25, 25] := by simpa using Array.mem_of_getElem? ht
        have hall : ([24, 25, 25].all fun u => !Tryz.prog.wantsStandIn u) = true := by kernel_rfl
        exact (show Tryz.prog.wantsStandIn t = false by simpa using List.all_eq_true.1 hall t hm)⟩)
    (by kernel_rfl)
end Go.Proofs.YtbencjopjdjepaaGreatDoor

