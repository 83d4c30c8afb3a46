/-
  Two packets with one frame are one packet, behind the same snapshot: PacketApart returns true, whatever its arguments of bulk at most 1048576, where the two tables (of the sum and of the components) lie as the program's text lays them, and changes nothing that was there.
-/
import Derived.Test.YtheafmecpnjdjaaDoorLPacketApartbg
import Derived.Test.YtheafmecpnjdjaaDoorTie
import Derived.Test.YtheafmecpnjdjaaDoorCards
import Derived.OpenShut
import Derived.SevenTiedAt
import Derived.Deep.DeepHandedRow
namespace Go.Proofs.YtheafmecpnjdjaaDoor
open Go.ChangeShapes Go.WideShapes Go.ChangeAt Go.RowKit
set_option linter.unusedVariables false
set_option maxRecDepth 100000
theorem packetApart_holds : Rows.PacketApartUptoCardSaid :=
  Claim7.holds_tied_plain_at .later [] [.data, .data] true (true, "e47fb27de0c2612fcd6d8799febd57f4b9fb06bba442bab2357d0acf7300b69d") false
    packetApart_row (fun _ h => by cases h) (by kernel_rfl) (fun _ h => by cases h) packetApartUpto_row_tie rfl ⟨rfl, rfl⟩ (by kernel_rfl) rfl
    (fun f fn hf hfn => by
      obtain rfl : f = 4 := Option.some.inj ((show Tryd.prog.funcNamed "pinnace/pinnacelaw20.PacketApart" = some 4 by kernel_rfl).symm.trans hf) |>.symm
      obtain rfl : fn = Tryd.f4 := (Option.some.inj (Tryd.func4.symm.trans hfn)).symm
      exact ⟨by kernel_rfl, fun j t ht => by
        rw [Tryd.params4] at ht
        have hm : t ∈ [28, 28, 22, 22, 22] := by simpa using Array.mem_of_getElem? ht
        have hall : ([28, 28, 22, 22, 22].all fun u => !Tryd.prog.wantsStandIn u) = true := by kernel_rfl
        exact (show Tryd.prog.wantsStandIn t = false by simpa using List.all_eq_true.1 hall t hm)⟩)
    (by kernel_rfl)
end Go.Proofs.YtheafmecpnjdjaaDoor
