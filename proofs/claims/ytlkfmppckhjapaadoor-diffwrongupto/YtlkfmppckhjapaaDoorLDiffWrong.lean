/-
  A delta that is put upon another snapshot than its own leads to one to which it is the delta from there, too, or is none there: DiffWrong returns true, whatever its arguments of bulk at most 1048576, where the table of the components lies as the program's text lays it, and changes nothing that was there.
-/
import Derived.Test.YtlkfmppckhjapaaDoorLDiffWrongb
import Derived.Test.YtlkfmppckhjapaaDoorTie
import Derived.Test.YtlkfmppckhjapaaDoorCards
import Derived.OpenShut
import Derived.SevenTiedAt
import Derived.Deep.DeepHandedRow
namespace Go.Proofs.YtlkfmppckhjapaaDoor
open Go.ChangeShapes Go.WideShapes Go.ChangeAt Go.RowKit
set_option linter.unusedVariables false
set_option maxRecDepth 100000
theorem diffWrong_holds : Rows.DiffWrongUptoCardSaid :=
  Claim7.holds_tied_plain_at .later [] [.data] true (true, "edb3477764bf909d3f975282c495baf48f38c847c0d655f88f9536ed399457ea") false
    diffWrong_row (fun _ h => by cases h) (by kernel_rfl) (fun _ h => by cases h) diffWrongUpto_row_tie rfl ⟨rfl, rfl⟩ (by kernel_rfl) rfl
    (fun f fn hf hfn => by
      obtain rfl : f = 6 := Option.some.inj ((show Tryd.prog.funcNamed "pinnace/pinnacelaw19.DiffWrong" = some 6 by kernel_rfl).symm.trans hf) |>.symm
      obtain rfl : fn = Tryd.f6 := (Option.some.inj (Tryd.func6.symm.trans hfn)).symm
      exact ⟨by kernel_rfl, fun j t ht => by
        rw [Tryd.params6] at ht
        have hm : t ∈ [22, 22, 22] := by simpa using Array.mem_of_getElem? ht
        have hall : ([22, 22, 22].all fun u => !Tryd.prog.wantsStandIn u) = true := by kernel_rfl
        exact (show Tryd.prog.wantsStandIn t = false by simpa using List.all_eq_true.1 hall t hm)⟩)
    (by kernel_rfl)
end Go.Proofs.YtlkfmppckhjapaaDoor
