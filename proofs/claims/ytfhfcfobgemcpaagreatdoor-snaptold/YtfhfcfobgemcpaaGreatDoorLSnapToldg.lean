/-
  What is told of any components are just those that are told to clients, in their order, and told once more it is the same: SnapTold returns true, whatever its argument, where the table of the components lies as the program's text lays it, and changes nothing that was there.
-/
import Derived.Test.YtfhfcfobgemcpaaGreatDoorLSnapToldbg
import Derived.Test.YtfhfcfobgemcpaaGreatDoorTie
import Derived.Test.YtfhfcfobgemcpaaGreatDoorCards
import Derived.OpenShut
import Derived.SevenTiedAt
namespace Go.Proofs.YtfhfcfobgemcpaaGreatDoor
open Go.ChangeShapes Go.WideShapes Go.ChangeAt Go.RowKit
set_option linter.unusedVariables false
set_option maxRecDepth 100000
theorem snapTold_holds : Rows.SnapToldCardSaid :=
  Claim7.holds_tied_plain_at .later [] [.data] true (true, "efc68b6ba1e167f5c05f5c0a8a5f071821190282914b273e2d7a71d3606d0d79") false
    snapTold_row (fun _ h => by cases h) (by kernel_rfl) (fun _ h => by cases h) snapTold_row_tie rfl ⟨rfl, rfl⟩ (by kernel_rfl) rfl
    (fun f fn hf hfn => by
      obtain rfl : f = 13 := Option.some.inj ((show Tryz.prog.funcNamed "pinnace/pinnacelaw18.SnapTold" = some 13 by kernel_rfl).symm.trans hf) |>.symm
      obtain rfl : fn = Tryz.f13 := (Option.some.inj (Tryz.func13.symm.trans hfn)).symm
      exact ⟨by kernel_rfl, fun j t ht => by
        rw [Tryz.params13] at ht
        have hm : t ∈ [39] := by simpa using Array.mem_of_getElem? ht
        have hall : ([39].all fun u => !Tryz.prog.wantsStandIn u) = true := by kernel_rfl
        exact (show Tryz.prog.wantsStandIn t = false by simpa using List.all_eq_true.1 hall t hm)⟩)
    (by kernel_rfl)
end Go.Proofs.YtfhfcfobgemcpaaGreatDoor
