/- No frame of a lane is above its budget: LaneBudget returns true, whatever its arguments of bulk at most 1048576, where the two tables (of the sum and of the components) lie as the program's text lays them, and changes nothing that was there. -/
import Derived.Test.YtgifeckbflkkpaaGreatDoorQl53
import Derived.Test.YtgifeckbflkkpaaGreatDoorTie
import Derived.Test.YtgifeckbflkkpaaGreatDoorCards
import Derived.OpenShut
import Derived.SevenTiedAt
import Derived.Deep.DeepHandedRow
namespace Go.Proofs.YtgifeckbflkkpaaGreatDoor
open Go.ChangeShapes Go.WideShapes Go.ChangeAt Go.RowKit
set_option linter.unusedVariables false
set_option maxRecDepth 100000
theorem laneBudget_holds : Rows.LaneBudgetUptoCardSaid :=
 Claim7.holds_tied_plain_at .later [] [.data,.data] true (true,"892a395f5dd6deedc67ad100af65b54c4906c8c4711efb8d293ab78704bbb13f") true
  laneBudget_row (fun _ h => by cases h) (by kernel_rfl) (fun _ h => by cases h) laneBudgetUpto_row_tie rfl ⟨rfl,rfl⟩ (by kernel_rfl) rfl
  (fun f fn hf hfn => by
    obtain rfl : f = 6 := Option.some.inj ((show Tryz.prog.funcNamed "pinnace/pinnacelaw21.LaneBudget" = some 6 by kernel_rfl).symm.trans hf) |>.symm
    obtain rfl : fn = Tryz.f6 := (Option.some.inj (Tryz.func6.symm.trans hfn)).symm
    exact ⟨by kernel_rfl,fun j t ht => by
     rw [Tryz.params6] at ht
     have hm : t ∈ [73,74,75] := by simpa using Array.mem_of_getElem? ht
     have hall : ([73,74,75].all fun u => !Tryz.prog.wantsStandIn u) = true := by kernel_rfl
     exact (show Tryz.prog.wantsStandIn t = false by simpa using List.all_eq_true.1 hall t hm)⟩)
  (by kernel_rfl)
end Go.Proofs.YtgifeckbflkkpaaGreatDoor
