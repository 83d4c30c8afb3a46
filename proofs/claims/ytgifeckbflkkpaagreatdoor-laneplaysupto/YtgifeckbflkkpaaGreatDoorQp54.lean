/- Every script of snapshots that are sent, and of ticks that come back, has the document's answers: LanePlays returns true, whatever its arguments of bulk at most 1048576, where the two tables (of the sum and of the components) lie as the program's text lays them, and changes nothing that was there. -/
import Derived.Test.YtgifeckbflkkpaaGreatDoorQp53
import Derived.Test.YtgifeckbflkkpaaGreatDoorTie
import Derived.Test.YtgifeckbflkkpaaGreatDoorCards
import Derived.OpenShut
import Derived.SevenTiedAt
import Derived.Deep.DeepHandedRow
namespace Go.Proofs.YtgifeckbflkkpaaGreatDoor
open Go.ChangeShapes Go.WideShapes Go.ChangeAt Go.RowKit
set_option linter.unusedVariables false
set_option maxRecDepth 100000
theorem lanePlays_holds : Rows.LanePlaysUptoCardSaid :=
 Claim7.holds_tied_plain_at .later [] [.data,.data] true (true,"892a395f5dd6deedc67ad100af65b54c4906c8c4711efb8d293ab78704bbb13f") true
  lanePlays_row (fun _ h => by cases h) (by kernel_rfl) (fun _ h => by cases h) lanePlaysUpto_row_tie rfl ⟨rfl,rfl⟩ (by kernel_rfl) rfl
  (fun f fn hf hfn => by
    obtain rfl : f = 5 := Option.some.inj ((show Tryz.prog.funcNamed "pinnace/pinnacelaw21.LanePlays" = some 5 by kernel_rfl).symm.trans hf) |>.symm
    obtain rfl : fn = Tryz.f5 := (Option.some.inj (Tryz.func5.symm.trans hfn)).symm
    exact ⟨by kernel_rfl,fun j t ht => by
     rw [Tryz.params5] at ht
     have hm : t ∈ [5,27,3,3,44] := by simpa using Array.mem_of_getElem? ht
     have hall : ([5,27,3,3,44].all fun u => !Tryz.prog.wantsStandIn u) = true := by kernel_rfl
     exact (show Tryz.prog.wantsStandIn t = false by simpa using List.all_eq_true.1 hall t hm)⟩)
  (by kernel_rfl)
end Go.Proofs.YtgifeckbflkkpaaGreatDoor
