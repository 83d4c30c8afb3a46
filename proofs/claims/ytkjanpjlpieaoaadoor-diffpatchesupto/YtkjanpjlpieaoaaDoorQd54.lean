/-
  Every delta, whatever it is made of, leads from every snapshot to one, or is none there; both come back untouched, and aren't kept: DiffPatches returns true, whatever its arguments of bulk at most 1048576, where the table of the components lies as the program's text lays it, and changes nothing that was there.
-/
import Derived.Test.YtkjanpjlpieaoaaDoorQd53
import Derived.Test.YtkjanpjlpieaoaaDoorTie
import Derived.Test.YtkjanpjlpieaoaaDoorCards
import Derived.OpenShut
import Derived.SevenTiedAt
import Derived.Deep.DeepHandedRow
namespace Go.Proofs.YtkjanpjlpieaoaaDoor
open Go.ChangeShapes Go.WideShapes Go.ChangeAt Go.RowKit
set_option linter.unusedVariables false
set_option maxRecDepth 100000
theorem diffPatches_holds : Rows.DiffPatchesUptoCardSaid :=
  Claim7.holds_tied_plain_at .later [] [.data] true (true, "8924746676a742cf825f516f6d8270300df9e475407112abea9458675b205cf7") false
    diffPatches_row (fun _ h => by cases h) (by kernel_rfl) (fun _ h => by cases h) diffPatchesUpto_row_tie rfl ⟨rfl, rfl⟩ (by kernel_rfl) rfl
    (fun f fn hf hfn => by
      obtain rfl : f = 3 := Option.some.inj ((show Tryd.prog.funcNamed "pinnace/pinnacelaw19.DiffPatches" = some 3 by kernel_rfl).symm.trans hf) |>.symm
      obtain rfl : fn = Tryd.f3 := (Option.some.inj (Tryd.func3.symm.trans hfn)).symm
      exact ⟨by kernel_rfl, fun j t ht => by
        rw [Tryd.params3] at ht
        have hm : t ∈ [22, 26] := by simpa using Array.mem_of_getElem? ht
        have hall : ([22, 26].all fun u => !Tryd.prog.wantsStandIn u) = true := by kernel_rfl
        exact (show Tryd.prog.wantsStandIn t = false by simpa using List.all_eq_true.1 hall t hm)⟩)
    (by kernel_rfl)
end Go.Proofs.YtkjanpjlpieaoaaDoor

