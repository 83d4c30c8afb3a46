/-
  Over the second of three snapshots the way leads to the third as it leads at once, and the way back leads back: DiffChain returns true, whatever its arguments of bulk at most 1048576, where the table of the components lies as the program's text lays it, and changes nothing that was there.
-/
import Derived.Test.YtlkfmppckhjapaaDoorLDiffChainbg
import Derived.Test.YtlkfmppckhjapaaDoorTie
import Derived.Test.YtlkfmppckhjapaaDoorCards
import Derived.OpenShut
import Derived.SevenTiedAt
import Derived.Deep.DeepHandedRow
namespace Go.Proofs.YtlkfmppckhjapaaDoor
open Go.ChangeShapes Go.WideShapes Go.ChangeAt Go.RowKit
set_option linter.unusedVariables false
set_option maxRecDepth 100000
theorem diffChain_holds : Rows.DiffChainUptoCardSaid :=
  Claim7.holds_tied_plain_at .later [] [.data] true (true, "edb3477764bf909d3f975282c495baf48f38c847c0d655f88f9536ed399457ea") false
    diffChain_row (fun _ h => by cases h) (by kernel_rfl) (fun _ h => by cases h) diffChainUpto_row_tie rfl ⟨rfl, rfl⟩ (by kernel_rfl) rfl
    (fun f fn hf hfn => by
      obtain rfl : f = 5 := Option.some.inj ((show Tryd.prog.funcNamed "pinnace/pinnacelaw19.DiffChain" = some 5 by kernel_rfl).symm.trans hf) |>.symm
      obtain rfl : fn = Tryd.f5 := (Option.some.inj (Tryd.func5.symm.trans hfn)).symm
      exact ⟨by kernel_rfl, fun j t ht => by
        rw [Tryd.params5] at ht
        have hm : t ∈ [22, 22, 22] := by simpa using Array.mem_of_getElem? ht
        have hall : ([22, 22, 22].all fun u => !Tryd.prog.wantsStandIn u) = true := by kernel_rfl
        exact (show Tryd.prog.wantsStandIn t = false by simpa using List.all_eq_true.1 hall t hm)⟩)
    (by kernel_rfl)
end Go.Proofs.YtlkfmppckhjapaaDoor
