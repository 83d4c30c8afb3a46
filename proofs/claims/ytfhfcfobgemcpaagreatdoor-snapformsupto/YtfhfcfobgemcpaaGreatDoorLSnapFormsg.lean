/-
  Of all entities together it is told whether they are a snapshot, what is told of components, and they come back untouched: SnapForms returns true, whatever its arguments of bulk at most 1048576, where the table of the components lies as the program's text lays it, and changes nothing that was there.
-/
import Derived.Test.YtfhfcfobgemcpaaGreatDoorLSnapFormsbg
import Derived.Test.YtfhfcfobgemcpaaGreatDoorTie
import Derived.Test.YtfhfcfobgemcpaaGreatDoorCards
import Derived.OpenShut
import Derived.SevenTiedAt
import Derived.Deep.DeepHandedRow
namespace Go.Proofs.YtfhfcfobgemcpaaGreatDoor
open Go.ChangeShapes Go.WideShapes Go.ChangeAt Go.RowKit
set_option linter.unusedVariables false
set_option maxRecDepth 100000
theorem snapForms_holds : Rows.SnapFormsUptoCardSaid :=
  Claim7.holds_tied_plain_at .later [] [.data] true (true, "efc68b6ba1e167f5c05f5c0a8a5f071821190282914b273e2d7a71d3606d0d79") false
    snapForms_row (fun _ h => by cases h) (by kernel_rfl) (fun _ h => by cases h) snapFormsUpto_row_tie rfl ⟨rfl, rfl⟩ (by kernel_rfl) rfl
    (fun f fn hf hfn => by
      obtain rfl : f = 8 := Option.some.inj ((show Tryz.prog.funcNamed "pinnace/pinnacelaw18.SnapForms" = some 8 by kernel_rfl).symm.trans hf) |>.symm
      obtain rfl : fn = Tryz.f8 := (Option.some.inj (Tryz.func8.symm.trans hfn)).symm
      exact ⟨by kernel_rfl, fun j t ht => by
        rw [Tryz.params8] at ht
        have hm : t ∈ [64, 38] := by simpa using Array.mem_of_getElem? ht
        have hall : ([64, 38].all fun u => !Tryz.prog.wantsStandIn u) = true := by kernel_rfl
        exact (show Tryz.prog.wantsStandIn t = false by simpa using List.all_eq_true.1 hall t hm)⟩)
    (by kernel_rfl)
end Go.Proofs.YtfhfcfobgemcpaaGreatDoor
