/- Every script of snapshots that are sent, and of ticks that come back, has the document's answers: LanePlays returns true, whatever its arguments of bulk at most 1048576, where the two tables (of the sum and of the components) lie as the program's text lays them, and changes nothing that was there. -/
import Derived.Test.YtgifeckbflkkpaaGreatDoorQp48
import Derived.Test.YtgifeckbflkkpaaGreatDoorQp49
import Derived.OpenShut
import Derived.SevenTiedAt
import Derived.Deep.DeepHandedRow
namespace Go.Proofs.YtgifeckbflkkpaaGreatDoor
open Go.ChangeShapes Go.WideShapes Go.ChangeAt Go.RowKit
set_option linter.unusedVariables false
set_option maxRecDepth 100000
theorem lanePlays_walk (w : World) (ht : Tab w ∧ Tabf w) (a0 : Int) (w0 : (Lit.int .u8 a0).wf = true) (a1 : Int) (w1 : (Lit.int .u32 a1).wf = true) (a2 : Int) (w2 : (Lit.int .i64 a2).wf = true) (a3 : Int) (w3 : (Lit.int .i64 a3).wf = true) (a4 : Option Addr) (len4 cap4 : Nat) (z4 : List OpL) (w4 : IsOpLs w a4 len4 cap4 z4) (hb4 : (z4.map (fun x => esz x.L)).sum ≤ 1048576) :
  Calls Tryz.prog 5 #[.int .u8 a0,.int .u32 a1,.int .i64 a2,.int .i64 a3,.slice a4 len4 cap4] w fun e w' => e = .returned (.bool true) ∧ Below w.heap.size w w' := by
 obtain ⟨c0,rfl,hc⟩ := okL8 w0
 obtain ⟨e0,rfl,he⟩ := okL32 w1
 refine (lanePlays_fr w ht c0 hc e0 he a2 a3 a4 len4 cap4 z4 w4 hb4).mono ?_
 rintro e w' ⟨rfl,hf⟩
 exact ⟨rfl,hf.below (Nat.le_refl _) (fun _ _ h => h)⟩
end Go.Proofs.YtgifeckbflkkpaaGreatDoor
