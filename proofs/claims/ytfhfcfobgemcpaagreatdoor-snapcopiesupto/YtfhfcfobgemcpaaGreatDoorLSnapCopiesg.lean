/-
  A copy is the same and goes its own way, and two are the same just if each thing is: SnapCopies returns true, whatever its arguments of bulk at most 1048576, where the table of the components lies as the program's text lays it, and changes nothing that was there.
-/
import Derived.Test.YtfhfcfobgemcpaaGreatDoorLSnapCopiesbg
import Derived.Test.YtfhfcfobgemcpaaGreatDoorTie
import Derived.Test.YtfhfcfobgemcpaaGreatDoorCards
import Derived.OpenShut
import Derived.SevenTiedAt
import Derived.Deep.DeepHandedRow
namespace Go.Proofs.YtfhfcfobgemcpaaGreatDoor
open Go.ChangeShapes Go.WideShapes Go.ChangeAt Go.RowKit
set_option linter.unusedVariables false
set_option maxRecDepth 100000
theorem snapCopies_holds : Rows.SnapCopiesUptoCardSaid :=
  Claim7.holds_tied_plain_at .later [] [.data] true (true, "efc68b6ba1e167f5c05f5c0a8a5f071821190282914b273e2d7a71d3606d0d79") false
    snapCopies_row (fun _ h => by cases h) (by kernel_rfl) (fun _ h => by cases h) snapCopiesUpto_row_tie rfl ⟨rfl, rfl⟩ (by kernel_rfl) rfl
    (fun f fn hf hfn => by
      obtain rfl : f = 11 := Option.some.inj ((show Tryz.prog.funcNamed "pinnace/pinnacelaw18.SnapCopies" = some 11 by kernel_rfl).symm.trans hf) |>.symm
      obtain rfl : fn = Tryz.f11 := (Option.some.inj (Tryz.func11.symm.trans hfn)).symm
      exact ⟨by kernel_rfl, fun j t ht => by
        rw [Tryz.params11] at ht
        have hm : t ∈ [64, 64] := by simpa using Array.mem_of_getElem? ht
        have hall : ([64, 64].all fun u => !Tryz.prog.wantsStandIn u) = true := by kernel_rfl
        exact (show Tryz.prog.wantsStandIn t = false by simpa using List.all_eq_true.1 hall t hm)⟩)
    (by kernel_rfl)
end Go.Proofs.YtfhfcfobgemcpaaGreatDoor
