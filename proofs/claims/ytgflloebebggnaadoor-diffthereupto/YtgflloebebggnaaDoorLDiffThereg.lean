/-
  From every snapshot to every other one there is just one delta, and it leads there; what is no snapshot is refused; both come back untouched: DiffThere returns true, whatever its arguments of bulk at most 1048576, where the table of the components lies as the program's text lays it, and changes nothing that was there.
-/
import Derived.Test.YtgflloebebggnaaDoorLDiffTherebg
import Derived.Test.YtgflloebebggnaaDoorTie
import Derived.Test.YtgflloebebggnaaDoorCards
import Derived.OpenShut
import Derived.SevenTiedAt
import Derived.Deep.DeepHandedRow
namespace Go.Proofs.YtgflloebebggnaaDoor
open Go.ChangeShapes Go.WideShapes Go.ChangeAt Go.RowKit
set_option linter.unusedVariables false
set_option maxRecDepth 100000
theorem diffThere_holds : Rows.DiffThereUptoCardSaid :=
  Claim7.holds_tied_plain_at .later [] [.data] true (true, "d1862d0a2216ae9e24856d778d2530156386d7de8be0348321ec060fa757bbb0") false
    diffThere_row (fun _ h => by cases h) (by kernel_rfl) (fun _ h => by cases h) diffThereUpto_row_tie rfl ⟨rfl, rfl⟩ (by kernel_rfl) rfl
    (fun f fn hf hfn => by
      obtain rfl : f = 3 := Option.some.inj ((show Tryd.prog.funcNamed "pinnace/pinnacelaw19.DiffThere" = some 3 by kernel_rfl).symm.trans hf) |>.symm
      obtain rfl : fn = Tryd.f3 := (Option.some.inj (Tryd.func3.symm.trans hfn)).symm
      exact ⟨by kernel_rfl, fun j t ht => by
        rw [Tryd.params3] at ht
        have hm : t ∈ [22, 22] := by simpa using Array.mem_of_getElem? ht
        have hall : ([22, 22].all fun u => !Tryd.prog.wantsStandIn u) = true := by kernel_rfl
        exact (show Tryd.prog.wantsStandIn t = false by simpa using List.all_eq_true.1 hall t hm)⟩)
    (by kernel_rfl)
end Go.Proofs.YtgflloebebggnaaDoor
