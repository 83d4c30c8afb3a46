/- No frame of a lane is above its budget: LaneBudget returns true, whatever its arguments of bulk at most 1048576, where the two tables (of the sum and of the components) lie as the program's text lays them, and changes nothing that was there. -/
import Derived.Test.YtgifeckbflkkpaaGreatDoorQl49
import Derived.OpenShut
import Derived.SevenTiedAt
import Derived.Deep.DeepHandedRow
namespace Go.Proofs.YtgifeckbflkkpaaGreatDoor
open Go.ChangeShapes Go.WideShapes Go.ChangeAt Go.RowKit
set_option linter.unusedVariables false
set_option maxRecDepth 100000
theorem u16r {n : Int} (h : (Lit.int .u16 n).wf = true) : ∃ k : Nat,n = k ∧ k < 65536 := by
 have : 0 ≤ n ∧ n ≤ 65535 := by simpa [Lit.wf,IntKind.min,IntKind.max,IntKind.signed,IntKind.bits] using h
 exact ⟨n.toNat,by omega,by omega⟩
theorem laneBudget_walk (w : World) (ht : Tab w ∧ Tabf w) (a0 : Int) (w0 : (Lit.int .u16 a0).wf = true) (a1 : Option Addr) (len1 cap1 : Nat) (z1 : List LeE) (w1 : IsLents w a1 len1 cap1 z1) (hb1 : (z1.map (fun x => esz x.L)).sum ≤ 1048576) (a2 : Option Addr) (len2 cap2 : Nat) (z2 : List Bool) (w2 : IsBls w a2 len2 cap2 z2) :
  Calls Tryz.prog 6 #[.int .u16 a0,.slice a1 len1 cap1,.slice a2 len2 cap2] w fun e w' => e = .returned (.bool true) ∧ Below w.heap.size w w' := by
 obtain ⟨k0,rfl,hk⟩ := u16r w0
 refine (laneBudget_fr w ht k0 hk a1 len1 cap1 z1 w1 hb1 a2 len2 cap2 z2 w2).mono ?_
 rintro e w' ⟨rfl,hf⟩
 exact ⟨rfl,hf.below (Nat.le_refl _) (fun _ _ h => h)⟩
end Go.Proofs.YtgifeckbflkkpaaGreatDoor
